/- Texts of the proof, part 9. -/
import Derived.Deep.RegionHeld3
import Derived.Laws.ResultCell
import Derived.Test.YtnjaofkieajnlabPostedG5
import Derived.Test.YtnjaofkieajnlabPostedG7

/- The program's dataOf: of which data each piece is the sum. -/
namespace Go.Proofs.Ytnjaofkieajnlab
open Go.RowKit

/-- A table of forty numbers, in block g. -/
abbrev TableAt (w : World) (g : Nat) (T : Nat → Nat) : Prop := w.rowIs g 58 40 (fun i => .int .i64 (T i : Int))

theorem table_new (w : World) : TableAt (w.alloc (.cells (Array.replicate 40 (.int .i64 0)) 58)) w.heap.size (fun _ => 0) :=
  ⟨_, heap_alloc_new w _, by simp, fun i hi => by simp [hi]⟩

theorem Try.sizeTable : (Try.prog.info? 58).map (·.size) = some 40 := by kernel_rfl

/-- The units as far as j. -/
def unitTab (j i : Nat) : Nat := if i < j then 2 ^ i else 0

theorem TableAt.unit {w : World} {g j : Nat} (h : TableAt w g (unitTab j)) : TableAt (w.setCell ⟨g, j, none⟩ (.int .i64 ((2 ^ j : Nat) : Int))) g (unitTab (j + 1)) := by
  refine (World.rowIs.set h j _).congr (fun i _ => ?_)
  by_cases e : i = j
  · subst e; rw [if_pos rfl]; unfold unitTab; rw [if_pos (by omega)]
  · rw [if_neg e]
    unfold unitTab
    by_cases l : i < j
    · rw [if_pos l, if_pos (by omega)]
    · rw [if_neg l, if_neg (by omega)]

/-- The table while row i is worked out: so far the sum at 'last' is b. -/
def midTab (T : Nat → Nat) (last b j : Nat) : Nat := if j = last then b else T j

theorem TableAt.mid {w : World} {g last b b' : Nat} {T : Nat → Nat} (h : TableAt w g (midTab T last b)) : TableAt (w.setCell ⟨g, last, none⟩ (.int .i64 (b' : Int))) g (midTab T last b') := by
  refine (World.rowIs.set h last _).congr (fun i _ => ?_)
  unfold midTab
  by_cases e : i = last
  · rw [if_pos e, if_pos e]
  · rw [if_neg e, if_neg e, if_neg e]

theorem table_one {cs : Array Value} {T : Nat → Nat} (hs : cs.size = 40) (h : ∀ i, i < 40 → cs[i]? = some (.int .i64 (T i : Int))) : cs.all (·.oneCell') = true := by
  rw [Array.all_eq_true_iff_forall_mem]
  intro v hv
  obtain ⟨i, hi, rfl⟩ := Array.mem_iff_getElem.1 hv
  have := h i (by omega)
  rw [Array.getElem?_eq_getElem hi] at this
  simp at this
  rw [this]; rfl

set_option maxRecDepth 100000 in
set_option maxHeartbeats 4000000 in
theorem dataOf_any (K M O S g base : Nat) (rv : Nat → Value) (w : World) (hK : 1 ≤ K ∧ K ≤ 20) (hM : 1 ≤ M ∧ M ≤ 20) (hrows : RowsAt w base g M rv (rowOf K M O S)) :
    Calls Try.prog 66 #[.int .i64 (K : Int), .slice (some ⟨g, 0, none⟩) M M] w fun e w' => ∃ cs, e = .returned (.agg cs) ∧ cs.size = 40 ∧ (∀ i, i < 40 → cs[i]? = some (.int .i64 (ofs K M O S i : Int))) ∧ Below w.heap.size w w' := by
  have hofs : ofs K M O S = ofTo K M O S M := rfl
  go_enter Try.func66, Try.ntmps66
  go_wp2_with fail
  go_loopw [6] (fun jv wr => ∃ j : Nat, j ≤ K ∧ jv = .int .i64 (j : Int) ∧ TableAt wr w.heap.size (fun _ => 0) ∧ TableAt wr (w.heap.size + 1) (unitTab j) ∧ Below w.heap.size w wr) (fun jv _ => K - (intOf jv).toNat)
  case atStart =>
    have h2 := table_new (w.alloc (.cells (Array.replicate 40 (.int .i64 0)) 58))
    rw [World.size_alloc] at h2
    exact ⟨0, Nat.zero_le _, rfl, World.rowIs.alloc (table_new w) _, World.rowIs.congr h2 (fun i _ => by simp [unitTab]), ((Below.refl _ _).alloc (Nat.le_refl _) _).alloc (by simp) _⟩
  case round =>
    obtain ⟨j, hj, rfl, hres, htab, hbel⟩ := hrel
    by_cases hlt : j < K
    · have hc := World.rowIs.cell htab (i := j) (by omega)
      have hf := World.rowIs.frozen htab j
      have hnx := htab.unit
      have hr2 := World.rowIs.setOther hres (a := ⟨w.heap.size + 1, j, none⟩) (by show w.heap.size ≠ w.heap.size + 1; omega) (.int .i64 ((2 ^ j : Nat) : Int))
      have hb2 := hbel.setCell (p := ⟨w.heap.size + 1, j, none⟩) (by show w.heap.size ≤ w.heap.size + 1; omega) (.int .i64 ((2 ^ j : Nat) : Int))
      obtain ⟨s1, s2⟩ := shl_small j (by omega)
      rw [← s1] at hnx hr2 hb2
      clear htab hres s1 s2 hbel
      go_wp2_with fail
      go_roundw
      case rel => exact ⟨j + 1, by omega, by go_num, hr2, hnx, hb2⟩
      case measure => simp [intOf]; omega
    · have hjK : j = K := by omega
      subst hjK
      have htab0 : TableAt wr (w.heap.size + 1) (ofTo j M O S 0) := htab
      clear htab
      obtain ⟨W, rfl⟩ : ∃ W, W = wr := ⟨_, rfl⟩
      go_wp2_with fail
      go_loopw [23] (fun iv wr => ∃ i : Nat, i ≤ M ∧ iv = .int .i64 (i : Int) ∧ TableAt wr w.heap.size (fun _ => 0) ∧ TableAt wr (w.heap.size + 1) (ofTo j M O S i) ∧ Below w.heap.size w wr) (fun iv _ => M - (intOf iv).toNat)
      case atStart => exact ⟨0, Nat.zero_le _, rfl, hres, htab0, hbel⟩
      case round =>
        clear htab0 hres hbel
        obtain ⟨i, hi, rfl, hres, htab, hbel⟩ := hrel
        by_cases hiM : i < M
        · have hr := hrows.below hbel
          have hcell := hr.cell hiM
          obtain ⟨ra, rcap, hrv, hrc⟩ := owns_view (hrows.own i hiM)
          rw [hrv] at hcell
          have hrl := rowOf_len j M O S i
          have hrlt := rowOf_lt j M O S i
          have i1 : (0 : Int) ≤ (i : Int) := by omega
          have i2 : (i : Int) < (M : Int) := by omega
          have htab0 : TableAt wr (w.heap.size + 1) (midTab (ofTo j M O S i) (j + i) (ofRow (ofTo j M O S i) (j + i) ((rowOf j M O S i).take 0))) := World.rowIs.congr htab (fun n _ => by
            show Value.int .i64 _ = Value.int .i64 _
            unfold midTab
            by_cases e : n = j + i
            · rw [if_pos e, e, ofTo_above j M O S i (j + i) (Nat.le_refl _)]; rfl
            · rw [if_neg e])
          have hnext : ofTo j M O S (i + 1) = midTab (ofTo j M O S i) (j + i) (ofRow (ofTo j M O S i) (j + i) (rowOf j M O S i)) := rfl
          have Hnext := hide hnext
          have hTlt : ∀ n, ofTo j M O S i n < 2 ^ j := fun n => ofTo_lt j M O S i n
          have hj20 : 2 ^ j ≤ 2 ^ 20 := Nat.pow_le_pow_right (by omega) hK.2
          clear htab hnext hr
          generalize hrow : rowOf j M O S i = row at *
          generalize hT : ofTo j M O S i = T at *
          go_wp2_with fail
          clear hcell
          go_loopw [33] (fun kv wr => ∃ k : Nat, k ≤ row.length ∧ kv = .int .i64 (k : Int) ∧ TableAt wr w.heap.size (fun _ => 0) ∧ TableAt wr (w.heap.size + 1) (midTab T (j + i) (ofRow T (j + i) (row.take k))) ∧ Below w.heap.size w wr) (fun kv _ => row.length - (intOf kv).toNat)
          case atStart => exact ⟨0, Nat.zero_le _, rfl, hres, htab0, hbel⟩
          case round =>
            clear htab0 hres hbel
            obtain ⟨k, hk, rfl, hres, htab, hbel⟩ := hrel
            by_cases hkl : k < row.length
            · obtain ⟨q, rfl, hqc⟩ := hrc k hkl
              have hqc2 := (hbel.cell (p := ⟨q, k, none⟩) (block_lt_of_cell hqc)).trans hqc
              have htk := ofRow_take T (j + i) row k hkl
              have hnm : row.getD k 0 ≤ j + i := hrlt _ (by rw [List.getD_eq_getElem?_getD, List.getElem?_eq_getElem hkl]; exact List.getElem_mem hkl)
              have hbl : ofRow T (j + i) (row.take k) < 2 ^ j := ofRow_lt hTlt
              have k1 : (0 : Int) ≤ (k : Int) := by omega
              have k2 : (k : Int) < (row.length : Int) := by omega
              clear hqc
              generalize row.getD k 0 = n at *
              generalize ofRow T (j + i) (row.take k) = b at *
              by_cases hnl : n < j + i
              · rw [if_pos hnl] at htk
                have Htk := hide htk
                have cn := World.rowIs.cell htab (i := n) (by omega)
                have cl := World.rowIs.cell htab (i := j + i) (by omega)
                have fl := World.rowIs.frozen htab (j + i)
                have hTn := hTlt n
                simp only [midTab, if_neg (show ¬ n = j + i from by omega), if_true] at cn cl
                have hxx := i64_xor_nat b (T n) (by omega) (by omega)
                have hnx := htab.mid (b' := b ^^^ T n)
                have hr2 := World.rowIs.setOther hres (a := ⟨w.heap.size + 1, j + i, none⟩) (by show w.heap.size ≠ w.heap.size + 1; omega) (.int .i64 ((b ^^^ T n : Nat) : Int))
                have hb2 := (hbel.setCell (p := ⟨w.heap.size + 1, j + i, none⟩) (by show w.heap.size ≤ w.heap.size + 1; omega) (.int .i64 ((b ^^^ T n : Nat) : Int))).drew
                have n1 : (0 : Int) ≤ (n : Int) := by omega
                have n2 : (n : Int) < 40 := by omega
                have n3 : (n : Int) < (j : Int) + (i : Int) := by omega
                have l1 : (0 : Int) ≤ (j : Int) + (i : Int) := by omega
                have l2 : (j : Int) + (i : Int) < 40 := by omega
                clear htab hres hbel htk
                go_wp2_with fail
                go_region
                all_goals
                  clear cn cl fl hxx hqc2
                  go_wp2
                  go_roundw
                  case rel => exact ⟨k + 1, by omega, by go_num, hr2, by rw [Htk.out]; exact hnx, hb2⟩
                  case measure => simp [intOf]; omega
              · rw [if_neg hnl] at htk
                have Htk := hide htk
                have n3 : ¬ (n : Int) < (j : Int) + (i : Int) := by omega
                clear htk
                go_wp2_with fail
                go_roundw
                case rel => exact ⟨k + 1, by omega, by go_num, hres, by rw [Htk.out]; exact htab, hbel⟩
                case measure => simp [intOf]; omega
            · have hkk : row.take k = row := List.take_of_length_le (by omega)
              rw [hkk, ← Hnext.out] at htab
              go_wp2_with fail
              go_roundw
              case rel => exact ⟨i + 1, by omega, by go_num, hres, htab, hbel⟩
              case measure => simp [intOf]; omega
        · have hiM2 : i = M := by omega
          subst hiM2
          obtain ⟨cs, hblk, hsz, hcs⟩ := htab
          obtain ⟨cs0, hblk0, hsz0, _⟩ := hres
          have hone := table_one hsz hcs
          have hfin : ∀ w', w' = wr.setRow w.heap.size cs → Below w.heap.size w w' := by
            rintro w' rfl
            exact (((Chg.of_below hbel (fun _ => False)).setRow (Or.inl (Nat.le_refl _)) cs).below (fun _ _ x => x))
          have Hcs := hide hcs
          clear hcs hrows hbel
          go_wp2_with (first | (refine wpList_load_row rfl 58 (.tmp 5) rfl (w.heap.size + 1) rfl 58 cs (0, 0) _ hblk Try.underlying58 rfl (by rw [hsz]; exact Try.sizeTable) ?_) | (refine wpList_store_row rfl 58 (.tmp 4) (.tmp 50) rfl w.heap.size cs rfl rfl 58 cs0 hblk0 (by rw [hsz]; exact Try.sizeTable) (by omega) hone ?_))
          refine bodyPost_ret (v := .agg cs) (results_cell_row Try.results66 _ _ w.heap.size 58 cs (0, 0) _ rfl (setRow_heap _ _ _ _ _ _ hblk0) Try.underlying58 rfl (by rw [hsz]; exact Try.sizeTable)) rfl ⟨cs, rfl, hsz, Hcs.out, hfin _ rfl⟩

end Go.Proofs.Ytnjaofkieajnlab

/- The program's New: an empty box. -/
namespace Go.Proofs.Ytnjaofkieajnlab
open Go.RowKit

/-- The cells of a new box, as a row. -/
def tabV (T : Nat → Nat) : Array Value := ((List.range 40).map fun i => Value.int .i64 (T i : Int)).toArray

def newL (K n z : Nat) (T : Nat → Nat) : List Value := (List.range 83).map (boxCell K n z T kn0)

abbrev newV (K n z : Nat) (T : Nat → Nat) : Array Value := (newL K n z T).toArray

theorem built_box (K n z : Nat) (T : Nat → Nat) : Try.prog.built 63 [(0, .int .i64 (K : Int)), (1, .int .i64 (n : Int)), (2, .int .i64 (z : Int)), (3, .agg (tabV T))] = some (newV K n z T) := by kernel_rfl

theorem built_none : Try.prog.built 63 [] = some (newV 0 0 0 (fun _ => 0)) := by kernel_rfl

theorem zero_box (w : World) : (zeroValue 63).run Try.prog w = .ok (.agg (newV 0 0 0 (fun _ => 0))) w := by kernel_rfl

theorem Try.sizeBox : (Try.prog.info? 63).map (·.size) = some 83 := by kernel_rfl

theorem newV_size (K n z : Nat) (T : Nat → Nat) : (newV K n z T).size = 83 := by simp [newL]

theorem newV_get (K n z : Nat) (T : Nat → Nat) (i : Nat) (hi : i < 83) : (newV K n z T)[i]? = some (boxCell K n z T kn0 i) := by
  unfold newV newL
  rw [List.getElem?_toArray, List.getElem?_map, List.getElem?_range hi]; rfl

theorem newV_one (K n z : Nat) (T : Nat → Nat) : (newV K n z T).all (·.oneCell') = true := by
  rw [Array.all_eq_true_iff_forall_mem]
  intro v hv
  obtain ⟨i, hi, rfl⟩ := Array.mem_iff_getElem.1 hv
  have h := newV_get K n z T i (by rw [newV_size] at hi; exact hi)
  rw [Array.getElem?_eq_getElem hi] at h
  simp only [Option.some.injEq] at h
  rw [h]
  unfold boxCell
  repeat' split
  all_goals rfl

theorem tab_of {cs : Array Value} {T : Nat → Nat} (hs : cs.size = 40) (h : ∀ i, i < 40 → cs[i]? = some (.int .i64 (T i : Int))) : cs = tabV T := by
  apply Array.ext_getElem?
  intro i
  by_cases hi : i < 40
  · rw [h i hi]
    unfold tabV
    rw [List.getElem?_toArray, List.getElem?_map, List.getElem?_range hi]; rfl
  · rw [Array.getElem?_eq_none (by omega), Array.getElem?_eq_none (by unfold tabV; simp; omega)]

/-- 'build' at a box, kept whole. -/
noncomputable def builtAs (parts : Array (Nat × Value)) : Sem Value := Instr.build 63 parts

theorem build_mask (parts : Array (Nat × Value)) : Instr.build 63 parts = builtAs parts := rfl

attribute [local go_sem ↓] build_mask

theorem newL_one (K n z : Nat) (T : Nat → Nat) : ∀ v ∈ newL K n z T, v.oneCell' = true := by
  intro v hv
  have h := newV_one K n z T
  rw [Array.all_eq_true_iff_forall_mem] at h
  exact h v (by simpa using hv)

theorem newL_length (K n z : Nat) (T : Nat → Nat) : (newL K n z T).length = 83 := by simp [newL]

theorem dataOf_tab (K M O S g base : Nat) (rv : Nat → Value) (w : World) (hK : 1 ≤ K ∧ K ≤ 20) (hM : 1 ≤ M ∧ M ≤ 20) (hrows : RowsAt w base g M rv (rowOf K M O S)) :
    Calls Try.prog 66 #[.int .i64 (K : Int), .slice (some ⟨g, 0, none⟩) M M] w fun e w' => e = .returned (.agg (tabV (ofs K M O S))) ∧ Below w.heap.size w w' :=
  (dataOf_any K M O S g base rv w hK hM hrows).mono fun _ _ ⟨_, he, hs, hc, hb⟩ => ⟨by rw [he, tab_of hs hc], hb⟩

theorem there_of_row {w : World} {b : Nat} {cs : Array Value} {t : TypeId} (h : w.heap[b]? = some (.cells cs t (0, 0))) : w.there b 0 cs.size := fun j hj => by
  rw [Nat.zero_add, cell_of_row _ _ _ _ _ _ h, Array.getElem?_eq_getElem hj]
  exact ⟨rfl, by simp [World.frozen?, h]⟩

theorem there_below {w w' : World} {b n m : Nat} (h : w.there b 0 m) (hb : Below n w w') (hn : b < n) : w'.there b 0 m := fun j hj => by
  have := h j hj
  rw [hb.cell (p := ⟨b, 0 + j, none⟩) hn, hb.frozen (p := ⟨b, 0 + j, none⟩) hn]; exact this

theorem heap_setCells_far (b : Nat) : ∀ (vs : List Value) (o : Nat) (w : World) (k : Nat), k ≠ b → (w.setCells b o vs).heap[k]? = w.heap[k]?
  | [], _, _, _, _ => rfl
  | v :: vs, o, w, k, h => by
    show ((w.setCell ⟨b, o, none⟩ v).setCells b (o + 1) vs).heap[k]? = _
    rw [heap_setCells_far b vs (o + 1) _ k h, heap_setCell_other _ _ _ _ h]

theorem cell_setCells_far (w : World) (b o : Nat) (vs : List Value) (x : Addr) (h : x.block ≠ b) : (w.setCells b o vs).cell? x = w.cell? x :=
  World.cell?_of_block (w := w) (heap_setCells_far b vs o w x.block h)

theorem size_setCells (b : Nat) : ∀ (vs : List Value) (o : Nat) (w : World), (w.setCells b o vs).heap.size = w.heap.size
  | [], _, _ => rfl
  | v :: vs, o, w => by
    show ((w.setCell ⟨b, o, none⟩ v).setCells b (o + 1) vs).heap.size = _
    rw [size_setCells b vs (o + 1)]; simp [World.setCell]

theorem rest_setCells (b : Nat) : ∀ (vs : List Value) (o : Nat) (w : World), (w.setCells b o vs).os = w.os ∧ (w.setCells b o vs).tape = w.tape ∧ (w.setCells b o vs).output = w.output
  | [], _, _ => ⟨rfl, rfl, rfl⟩
  | v :: vs, o, w => by
    show ((w.setCell ⟨b, o, none⟩ v).setCells b (o + 1) vs).os = _ ∧ _
    exact rest_setCells b vs (o + 1) (w.setCell ⟨b, o, none⟩ v)

theorem below_setCells {n : Nat} {w w' : World} (h : Below n w w') {b : Nat} (hb : n ≤ b) (o : Nat) (vs : List Value) : Below n w (w'.setCells b o vs) := by
  obtain ⟨h1, h2, h3⟩ := rest_setCells b vs o w'
  exact ⟨h1.trans h.os, h2.trans h.tape, h3.trans h.output, by rw [size_setCells]; exact h.size, fun k hk => by rw [heap_setCells_far b vs o w' k (by omega)]; exact h.block k hk⟩

theorem storeCells_run (b : Nat) (vs : List Value) (w : World) (ht : w.there b 0 vs.length) (h1 : ∀ v ∈ vs, v.oneCell' = true) : (storeCells ⟨b, 0, none⟩ vs).run Try.prog w = .ok () (w.setCells b 0 vs) :=
  run_storeCells_cells (P := Try.prog) b 0 vs 0 w (fun j hj => by simpa using (ht j hj).1) (fun j hj => by simpa using (ht j hj).2) h1

set_option maxRecDepth 100000 in
set_option maxHeartbeats 4000000 in
theorem bnew_ok (K M O S z : Nat) (w : World) (hK : 1 ≤ K ∧ K ≤ 20) (hM : 1 ≤ M ∧ M ≤ 20) (hO : 1 ≤ O ∧ O ≤ M) (hS : S ≤ 65535) (hz : 1 ≤ z ∧ z ≤ 16) :
    Calls Try.prog 42 #[specV K M O S, .int .i64 (z : Int)] w fun e w' => e = .returned (.tuple #[.agg (newV K (K + M) z (ofs K M O S)), .int .i64 0]) ∧ Below w.heap.size w w' := by
  have hbuild : ∀ w, (builtAs #[(0, .int .i64 (K : Int)), (1, .int .i64 ((K + M : Nat) : Int)), (2, .int .i64 (z : Int)), (3, .agg (tabV (ofs K M O S)))]).run Try.prog w = .ok (.agg (newV K (K + M) z (ofs K M O S))) w := fun w => run_build (P := Try.prog) w 63 #[(0, .int .i64 (K : Int)), (1, .int .i64 ((K + M : Nat) : Int)), (2, .int .i64 (z : Int)), (3, .agg (tabV (ofs K M O S)))] _ (built_box K (K + M) z (ofs K M O S))
  have Hb := hide hbuild
  clear hbuild
  have hzb := zero_box
  go_enter Try.func42, Try.ntmps42
  go_wp2_with fail
  clear hzb
  refine (wrows_ok K M O S _ hK hM hO hS).mono ?_
  rintro e w1 ⟨g, rv, rfl, hrows, hg, hb1⟩
  simp only [World.size_alloc] at hb1 hg
  have hsp : w1.heap[w.heap.size]? = some (.cells #[.int .i64 (K : Int), .int .i64 (M : Int), .int .i64 (O : Int), .int .i64 (S : Int)] 24 (0, 0)) := by
    rw [hb1.block _ (by omega), heap_alloc_old _ _ (by simp)]; exact heap_alloc_new w _
  have hres : w1.heap[w.heap.size + 1]? = some (.cells (newV 0 0 0 (fun _ => 0)) 63 (0, 0)) := by
    rw [hb1.block _ (by omega)]; exact heap_alloc2_new w _ _
  obtain ⟨c0, c1, c2, c3⟩ : w1.cell? ⟨w.heap.size, 0, none⟩ = some (.int .i64 (K : Int)) ∧ w1.cell? ⟨w.heap.size, 1, none⟩ = some (.int .i64 (M : Int)) ∧ w1.cell? ⟨w.heap.size, 2, none⟩ = some (.int .i64 (O : Int)) ∧ w1.cell? ⟨w.heap.size, 3, none⟩ = some (.int .i64 (S : Int)) := by
    refine ⟨?_, ?_, ?_, ?_⟩ <;> rw [cell_of_row _ _ _ _ _ _ hsp] <;> rfl
  have z1 : ¬ (z : Int) < 1 := by omega
  have z2 : ¬ (16 : Int) < (z : Int) := by omega
  have ht := there_of_row hres
  rw [newV_size] at ht
  have hu := Try.underlying63
  have hi : (Try.prog.info? 63).map (·.size) = some (newL K (K + M) z (ofs K M O S)).length := by rw [newL_length]; exact Try.sizeBox
  have hsz := newL_length K (K + M) z (ofs K M O S)
  have hone := newL_one K (K + M) z (ofs K M O S)
  have hb := Hb.out
  have hwr : ((K + M : Nat) : Int) = IntKind.i64.wrap ((K : Int) + (M : Int)) := by rw [← Int.natCast_add, wrapNat _ (by omega)]
  rw [hwr] at hb
  clear hwr
  have hst : ∀ W : World, W.there (w.heap.size + 1) 0 83 → (storeCells ⟨w.heap.size + 1, 0, none⟩ (newL K (K + M) z (ofs K M O S))).run Try.prog W = .ok () (W.setCells (w.heap.size + 1) 0 (newL K (K + M) z (ofs K M O S))) := fun W hW => storeCells_run _ _ _ (by rw [hsz]; exact hW) hone
  have hs1 : w.heap.size + 2 ≤ w1.heap.size := by have := hb1.size; simp at this; omega
  obtain ⟨cs, hcs⟩ : ∃ cs, cs = newL K (K + M) z (ofs K M O S) := ⟨_, rfl⟩
  have Hcs := hide hcs
  unfold newV at hb
  rw [← hcs] at hb hi hsz hone hst
  clear c2 c3 Hb hcs hi hu
  go_wp2_with fail
  go_region_held3 (fun w' => w'.cell? ⟨w.heap.size, 0, none⟩ = some (.int .i64 (K : Int)) ∧ w'.cell? ⟨w.heap.size, 1, none⟩ = some (.int .i64 (M : Int)) ∧ w'.there (w.heap.size + 1) 0 83)
    (first | (exact ⟨j0, j1, j2⟩) | (exact ⟨(cell_setCells_far w2 _ _ _ _ (by show w.heap.size ≠ w.heap.size + 1; omega)).trans j0, (cell_setCells_far w2 _ _ _ _ (by show w.heap.size ≠ w.heap.size + 1; omega)).trans j1, World.there_setCells j2 _ _ _⟩) | go_keep_ranges)
    (first
      | (go_at_call 66; refine (dataOf_tab K M O S g (g + 1) rv _ hK hM ?_).mono ?_; (first | exact hrows | exact hrows.drew); rintro e w2 ⟨rfl, hb2⟩; have j0 := (hb2.cell (p := ⟨w.heap.size, 0, none⟩) (show w.heap.size < w1.heap.size from by omega)).trans c0; have j1 := (hb2.cell (p := ⟨w.heap.size, 1, none⟩) (show w.heap.size < w1.heap.size from by omega)).trans c1; have j2 := there_below (w := w1.drew) (n := w1.heap.size) ht hb2 (by omega)))
  have hr := World.rangeAt_setCells_same w2 (w.heap.size + 1) 0 cs (by rw [hsz]; exact j2)
  have hb3 : Below w.heap.size w (w2.setCells (w.heap.size + 1) 0 cs) := by
    have h1 : Below w.heap.size w w1 := (((Below.refl w.heap.size w).alloc (Nat.le_refl _) _).alloc (by simp) _).trans (hb1.mono (by omega))
    have h2 : Below w.heap.size w w2 := h1.drew.trans (Below.mono hb2 (show w.heap.size ≤ w1.heap.size from by omega))
    exact below_setCells h2 (Nat.le_succ _) _ _
  clear hb1 hb2 hrows c0 c1 ht hst hb j0 j1 j2 hres hsp
  go_wp2_with fail
  refine bodyPost_ret (v := .tuple #[.agg cs.toArray, .int .i64 0]) ?_ rfl ⟨by rw [Hcs.out], hb3⟩
  rw [results_cell_tmp Try.results42]
  have hl := run_loadVar_mid (P := Try.prog) _ (w.heap.size + 1) 0 63 cs _ hr Try.underlying63 rfl (by rw [hsz]; exact Try.sizeBox)
  simp [asAddr, hl]

abbrev zeroL : List Value := newL 0 0 0 (fun _ => 0)

set_option maxRecDepth 100000 in
set_option maxHeartbeats 4000000 in
theorem bnew_bad (K M O S z : Int) (w : World) (hmay : mayB K M O S = false) :
    Calls Try.prog 42 #[specV K M O S, .int .i64 z] w fun e w' => e = .returned (.tuple #[.agg zeroL.toArray, .int .i64 1]) ∧ Below w.heap.size w w' := by
  have hb : ∀ w, (builtAs #[]).run Try.prog w = .ok (.agg zeroL.toArray) w := fun w => run_build (P := Try.prog) w 63 #[] _ built_none
  have hzb : ∀ w, (zeroValue 63).run Try.prog w = .ok (.agg zeroL.toArray) w := zero_box
  have hsz : zeroL.length = 83 := newL_length 0 0 0 (fun _ => 0)
  have hone := newL_one 0 0 0 (fun _ => 0)
  have hst : ∀ W : World, W.there (w.heap.size + 1) 0 83 → (storeCells ⟨w.heap.size + 1, 0, none⟩ zeroL).run Try.prog W = .ok () (W.setCells (w.heap.size + 1) 0 zeroL) := fun W hW => storeCells_run _ _ _ (by rw [hsz]; exact hW) hone
  obtain ⟨cs, hcs⟩ : ∃ cs, cs = zeroL := ⟨_, rfl⟩
  have Hcs := hide hcs
  rw [← hcs] at hb hzb hsz hst
  clear hcs hone
  go_enter Try.func42, Try.ntmps42
  go_wp2_with fail
  clear hzb
  refine (wrows_bad K M O S _ hmay).mono ?_
  rintro e w1 ⟨rfl, hb1⟩
  simp only [World.size_alloc] at hb1
  have hres : w1.heap[w.heap.size + 1]? = some (.cells cs.toArray 63 (0, 0)) := by
    rw [hb1.block _ (by omega)]; exact heap_alloc2_new w _ _
  have ht : w1.there (w.heap.size + 1) 0 83 := by
    have h := there_of_row hres
    rwa [show cs.toArray.size = 83 from by simp [hsz]] at h
  have hst1 := hst w1 ht
  have hr := World.rangeAt_setCells_same w1 (w.heap.size + 1) 0 cs (by rw [hsz]; exact ht)
  have hb3 : Below w.heap.size w (w1.setCells (w.heap.size + 1) 0 cs) := by
    have h1 : Below w.heap.size w w1 := (((Below.refl w.heap.size w).alloc (Nat.le_refl _) _).alloc (by simp) _).trans (hb1.mono (by omega))
    exact below_setCells h1 (Nat.le_succ _) _ _
  clear hb1 hst ht hres
  go_wp2_with fail
  refine bodyPost_ret (v := .tuple #[.agg cs.toArray, .int .i64 1]) ?_ rfl ⟨by rw [Hcs.out], hb3⟩
  rw [results_cell_tmp Try.results42]
  have hl := run_loadVar_mid (P := Try.prog) _ (w.heap.size + 1) 0 63 cs _ hr Try.underlying63 rfl (by rw [hsz]; exact Try.sizeBox)
  simp [asAddr, hl]

set_option maxRecDepth 100000 in
set_option maxHeartbeats 4000000 in
theorem bnew_arg (K M O S : Nat) (z : Int) (w : World) (hK : 1 ≤ K ∧ K ≤ 20) (hM : 1 ≤ M ∧ M ≤ 20) (hO : 1 ≤ O ∧ O ≤ M) (hS : S ≤ 65535) (hz : z < 1 ∨ 16 < z) :
    Calls Try.prog 42 #[specV K M O S, .int .i64 z] w fun e w' => e = .returned (.tuple #[.agg zeroL.toArray, .int .i64 2]) ∧ Below w.heap.size w w' := by
  have hb : ∀ w, (builtAs #[]).run Try.prog w = .ok (.agg zeroL.toArray) w := fun w => run_build (P := Try.prog) w 63 #[] _ built_none
  have hzb : ∀ w, (zeroValue 63).run Try.prog w = .ok (.agg zeroL.toArray) w := zero_box
  have hsz : zeroL.length = 83 := newL_length 0 0 0 (fun _ => 0)
  have hone := newL_one 0 0 0 (fun _ => 0)
  have hst : ∀ W : World, W.there (w.heap.size + 1) 0 83 → (storeCells ⟨w.heap.size + 1, 0, none⟩ zeroL).run Try.prog W = .ok () (W.setCells (w.heap.size + 1) 0 zeroL) := fun W hW => storeCells_run _ _ _ (by rw [hsz]; exact hW) hone
  obtain ⟨cs, hcs⟩ : ∃ cs, cs = zeroL := ⟨_, rfl⟩
  have Hcs := hide hcs
  rw [← hcs] at hb hzb hsz hst
  clear hcs hone
  go_enter Try.func42, Try.ntmps42
  go_wp2_with fail
  clear hzb
  refine (wrows_ok K M O S _ hK hM hO hS).mono ?_
  rintro e w1 ⟨g, rv, rfl, _, hg, hb1⟩
  simp only [World.size_alloc] at hb1 hg
  have hres : w1.heap[w.heap.size + 1]? = some (.cells cs.toArray 63 (0, 0)) := by
    rw [hb1.block _ (by omega)]; exact heap_alloc2_new w _ _
  have ht : w1.there (w.heap.size + 1) 0 83 := by
    have h := there_of_row hres
    rwa [show cs.toArray.size = 83 from by simp [hsz]] at h
  have hst1 := hst w1 ht
  have hr := World.rangeAt_setCells_same w1 (w.heap.size + 1) 0 cs (by rw [hsz]; exact ht)
  have hb3 : Below w.heap.size w (w1.setCells (w.heap.size + 1) 0 cs) := by
    have h1 : Below w.heap.size w w1 := (((Below.refl w.heap.size w).alloc (Nat.le_refl _) _).alloc (by simp) _).trans (hb1.mono (by omega))
    exact below_setCells h1 (Nat.le_succ _) _ _
  clear hb1 hst ht hres
  rcases hz with hz | hz
  all_goals
    go_wp2_with fail
    refine bodyPost_ret (v := .tuple #[.agg cs.toArray, .int .i64 2]) ?_ rfl ⟨by rw [Hcs.out], hb3⟩
    rw [results_cell_tmp Try.results42]
    have hl := run_loadVar_mid (P := Try.prog) _ (w.heap.size + 1) 0 63 cs _ hr Try.underlying63 rfl (by rw [hsz]; exact Try.sizeBox)
    simp [asAddr, hl]

end Go.Proofs.Ytnjaofkieajnlab

/- The program's New, as it is called. -/
namespace Go.Proofs.Ytnjaofkieajnlab
open Go.RowKit

theorem built_rbox (K n z : Nat) (T : Nat → Nat) : Try.prog.built 65 [(0, .agg (newV K n z T))] = some (newV K n z T) := by kernel_rfl

noncomputable def builtAt (parts : Array (Nat × Value)) : Sem Value := Instr.build 65 parts

theorem build_mask2 (parts : Array (Nat × Value)) : Instr.build 65 parts = builtAt parts := rfl

attribute [local go_sem ↓] build_mask2

theorem newBox_at (w : World) (K n z : Nat) (T : Nat → Nat) : BoxAt (w.alloc (.cells (newV K n z T) 65)) w.heap.size K n z T kn0 :=
  ⟨_, heap_alloc_new w _, newV_size K n z T, fun i hi => newV_get K n z T i hi⟩

set_option maxRecDepth 100000 in
set_option maxHeartbeats 4000000 in
theorem new_ok (K M O S z : Nat) (w : World) (hK : 1 ≤ K ∧ K ≤ 20) (hM : 1 ≤ M ∧ M ≤ 20) (hO : 1 ≤ O ∧ O ≤ M) (hS : S ≤ 65535) (hz : 1 ≤ z ∧ z ≤ 16) :
    Calls Try.prog 29 #[specV K M O S, .int .i64 (z : Int)] w fun e w' => ∃ p, e = .returned (.tuple #[.pointer (some ⟨p, 0, none⟩), .int .i64 0]) ∧ BoxAt w' p K (K + M) z (ofs K M O S) kn0 ∧ w.heap.size ≤ p ∧ Below w.heap.size w w' := by
  have hbx := fun w => newBox_at w K (K + M) z (ofs K M O S)
  have hb : ∀ w, (builtAt #[(0, .agg (newL K (K + M) z (ofs K M O S)).toArray)]).run Try.prog w = .ok (.agg (newL K (K + M) z (ofs K M O S)).toArray) w := fun w => run_build (P := Try.prog) w 65 #[_] _ (built_rbox K (K + M) z (ofs K M O S))
  have hzb : ∀ w, (zeroValue 63).run Try.prog w = .ok (.agg zeroL.toArray) w := zero_box
  have hsz := newL_length K (K + M) z (ofs K M O S)
  have hone := newL_one K (K + M) z (ofs K M O S)
  have hnew := bnew_ok K M O S z
  unfold newV at hbx hnew
  generalize newL K (K + M) z (ofs K M O S) = cs at *
  have hzl : zeroL.length = 83 := newL_length 0 0 0 (fun _ => 0)
  generalize zeroL = zs at *
  have hi : (Try.prog.info? 63).map (·.size) = some cs.length := by rw [hsz]; exact Try.sizeBox
  go_enter Try.func29, Try.ntmps29
  go_wp2_with fail
  refine (hnew _ hK hM hO hS hz).mono ?_
  rintro e w1 ⟨rfl, hb1⟩
  have ht : (w1.alloc (.cells zs.toArray 63)).there w1.heap.size 0 83 := by
    have h := there_of_row (heap_alloc_new w1 (.cells zs.toArray 63))
    rwa [show zs.toArray.size = 83 from by simp [hzl]] at h
  have hst := storeCells_run w1.heap.size cs (w1.alloc (.cells zs.toArray 63)) (by rw [hsz]; exact ht) hone
  have hr := World.rangeAt_setCells_same (w1.alloc (.cells zs.toArray 63)) w1.heap.size 0 cs (by rw [hsz]; exact ht)
  have hbW : Below w.heap.size w ((w1.alloc (.cells zs.toArray 63)).setCells w1.heap.size 0 cs) := by
    have h0 : Below w.heap.size w w1 := ((Below.refl w.heap.size w).alloc (Nat.le_refl _) _).trans (hb1.mono (by simp))
    exact below_setCells (h0.alloc h0.size _) h0.size _ _
  generalize hW : (w1.alloc (.cells zs.toArray 63)).setCells w1.heap.size 0 cs = W at *
  clear ht hb1 hnew hone hW
  go_wp2_with (refine wpList_load_mid rfl 63 (.tmp 6) rfl w1.heap.size 0 rfl cs _ hr Try.underlying63 rfl hi ?_)
  go_ret2
  exact ⟨_, rfl, hbx W, hbW.size, hbW.alloc hbW.size _⟩

set_option maxRecDepth 100000 in
set_option maxHeartbeats 4000000 in
theorem new_bad (K M O S z : Int) (w : World) (hmay : mayB K M O S = false) :
    Calls Try.prog 29 #[specV K M O S, .int .i64 z] w fun e w' => e = .returned (.tuple #[.pointer none, .int .i64 1]) ∧ Below w.heap.size w w' := by
  have hzb : ∀ w, (zeroValue 63).run Try.prog w = .ok (.agg zeroL.toArray) w := zero_box
  have hzl : zeroL.length = 83 := newL_length 0 0 0 (fun _ => 0)
  have hnew := bnew_bad K M O S z
  have hone : ∀ v ∈ zeroL, v.oneCell' = true := newL_one 0 0 0 (fun _ => 0)
  generalize zeroL = zs at *
  go_enter Try.func29, Try.ntmps29
  go_wp2_with fail
  refine (hnew _ hmay).mono ?_
  rintro e w1 ⟨rfl, hb1⟩
  have ht : (w1.alloc (.cells zs.toArray 63)).there w1.heap.size 0 83 := by
    have h := there_of_row (heap_alloc_new w1 (.cells zs.toArray 63))
    rwa [show zs.toArray.size = 83 from by simp [hzl]] at h
  have hst := storeCells_run w1.heap.size zs (w1.alloc (.cells zs.toArray 63)) (by rw [hzl]; exact ht) hone
  have hbW : Below w.heap.size w ((w1.alloc (.cells zs.toArray 63)).setCells w1.heap.size 0 zs) := by
    have h0 : Below w.heap.size w w1 := ((Below.refl w.heap.size w).alloc (Nat.le_refl _) _).trans (hb1.mono (by simp))
    exact below_setCells (h0.alloc h0.size _) h0.size _ _
  generalize hW : (w1.alloc (.cells zs.toArray 63)).setCells w1.heap.size 0 zs = W at *
  clear ht hb1 hnew hone hW
  go_wp2_with fail
  go_ret2
  exact ⟨rfl, hbW⟩

set_option maxRecDepth 100000 in
set_option maxHeartbeats 4000000 in
theorem new_arg (K M O S : Nat) (z : Int) (w : World) (hK : 1 ≤ K ∧ K ≤ 20) (hM : 1 ≤ M ∧ M ≤ 20) (hO : 1 ≤ O ∧ O ≤ M) (hS : S ≤ 65535) (hz : z < 1 ∨ 16 < z) :
    Calls Try.prog 29 #[specV K M O S, .int .i64 z] w fun e w' => e = .returned (.tuple #[.pointer none, .int .i64 2]) ∧ Below w.heap.size w w' := by
  have hzb : ∀ w, (zeroValue 63).run Try.prog w = .ok (.agg zeroL.toArray) w := zero_box
  have hzl : zeroL.length = 83 := newL_length 0 0 0 (fun _ => 0)
  have hnew := bnew_arg K M O S z
  have hone : ∀ v ∈ zeroL, v.oneCell' = true := newL_one 0 0 0 (fun _ => 0)
  generalize zeroL = zs at *
  go_enter Try.func29, Try.ntmps29
  go_wp2_with fail
  refine (hnew _ hK hM hO hS hz).mono ?_
  rintro e w1 ⟨rfl, hb1⟩
  have ht : (w1.alloc (.cells zs.toArray 63)).there w1.heap.size 0 83 := by
    have h := there_of_row (heap_alloc_new w1 (.cells zs.toArray 63))
    rwa [show zs.toArray.size = 83 from by simp [hzl]] at h
  have hst := storeCells_run w1.heap.size zs (w1.alloc (.cells zs.toArray 63)) (by rw [hzl]; exact ht) hone
  have hbW : Below w.heap.size w ((w1.alloc (.cells zs.toArray 63)).setCells w1.heap.size 0 zs) := by
    have h0 : Below w.heap.size w w1 := ((Below.refl w.heap.size w).alloc (Nat.le_refl _) _).trans (hb1.mono (by simp))
    exact below_setCells (h0.alloc h0.size _) h0.size _ _
  generalize hW : (w1.alloc (.cells zs.toArray 63)).setCells w1.heap.size 0 zs = W at *
  clear ht hb1 hnew hone hW
  go_wp2_with fail
  go_ret2
  exact ⟨rfl, hbW⟩

end Go.Proofs.Ytnjaofkieajnlab
