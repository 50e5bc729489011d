/- The program's New: an empty box. -/
import Derived.Test.YtnjaofkieajnlaaGreatPBox4
import Derived.Laws.ResultCell
import Derived.Deep.RegionHeld3
namespace Go.Proofs.YtnjaofkieajnlaaGreat
open Go.RowKit

/-- The cells of a new box, as a row. -/
def tabV (T : Nat → Nat) : Array Value := ((List.range 40).map fun i => Value.int .i64 (T i : Int)).toArray

def newL (K n z : Nat) (T : Nat → Nat) : List Value := (List.range 83).map (boxCell K n z T kn0)

abbrev newV (K n z : Nat) (T : Nat → Nat) : Array Value := (newL K n z T).toArray

theorem built_box (K n z : Nat) (T : Nat → Nat) : Tryz.prog.built 85 [(0, .int .i64 (K : Int)), (1, .int .i64 (n : Int)), (2, .int .i64 (z : Int)), (3, .agg (tabV T))] = some (newV K n z T) := by kernel_rfl

theorem built_none : Tryz.prog.built 85 [] = some (newV 0 0 0 (fun _ => 0)) := by kernel_rfl

theorem zero_box (w : World) : (zeroValue 85).run Tryz.prog w = .ok (.agg (newV 0 0 0 (fun _ => 0))) w := by kernel_rfl

theorem Tryz.sizeBox : (Tryz.prog.info? 85).map (·.size) = some 83 := by kernel_rfl

theorem newV_size (K n z : Nat) (T : Nat → Nat) : (newV K n z T).size = 83 := by simp [newL]

theorem newV_get (K n z : Nat) (T : Nat → Nat) (i : Nat) (hi : i < 83) : (newV K n z T)[i]? = some (boxCell K n z T kn0 i) := by
  unfold newV newL
  rw [List.getElem?_toArray, List.getElem?_map, List.getElem?_range hi]; rfl

theorem newV_one (K n z : Nat) (T : Nat → Nat) : (newV K n z T).all (·.oneCell') = true := by
  rw [Array.all_eq_true_iff_forall_mem]
  intro v hv
  obtain ⟨i, hi, rfl⟩ := Array.mem_iff_getElem.1 hv
  have h := newV_get K n z T i (by rw [newV_size] at hi; exact hi)
  rw [Array.getElem?_eq_getElem hi] at h
  simp only [Option.some.injEq] at h
  rw [h]
  unfold boxCell
  repeat' split
  all_goals rfl

theorem tab_of {cs : Array Value} {T : Nat → Nat} (hs : cs.size = 40) (h : ∀ i, i < 40 → cs[i]? = some (.int .i64 (T i : Int))) : cs = tabV T := by
  apply Array.ext_getElem?
  intro i
  by_cases hi : i < 40
  · rw [h i hi]
    unfold tabV
    rw [List.getElem?_toArray, List.getElem?_map, List.getElem?_range hi]; rfl
  · rw [Array.getElem?_eq_none (by omega), Array.getElem?_eq_none (by unfold tabV; simp; omega)]

/-- 'build' at a box, kept whole. -/
noncomputable def builtAs (parts : Array (Nat × Value)) : Sem Value := Instr.build 85 parts

theorem build_mask (parts : Array (Nat × Value)) : Instr.build 85 parts = builtAs parts := rfl

attribute [local go_sem ↓] build_mask

theorem newL_one (K n z : Nat) (T : Nat → Nat) : ∀ v ∈ newL K n z T, v.oneCell' = true := by
  intro v hv
  have h := newV_one K n z T
  rw [Array.all_eq_true_iff_forall_mem] at h
  exact h v (by simpa using hv)

theorem newL_length (K n z : Nat) (T : Nat → Nat) : (newL K n z T).length = 83 := by simp [newL]

theorem dataOf_tab (K M O S g base : Nat) (rv : Nat → Value) (w : World) (hK : 1 ≤ K ∧ K ≤ 20) (hM : 1 ≤ M ∧ M ≤ 20) (hrows : RowsAt w base g M rv (rowOf K M O S)) :
    Calls Tryz.prog 85 #[.int .i64 (K : Int), .slice (some ⟨g, 0, none⟩) M M] w fun e w' => e = .returned (.agg (tabV (ofs K M O S))) ∧ Below w.heap.size w w' :=
  (dataOf_any K M O S g base rv w hK hM hrows).mono fun _ _ ⟨_, he, hs, hc, hb⟩ => ⟨by rw [he, tab_of hs hc], hb⟩

theorem there_of_row {w : World} {b : Nat} {cs : Array Value} {t : TypeId} (h : w.heap[b]? = some (.cells cs t (0, 0))) : w.there b 0 cs.size := fun j hj => by
  rw [Nat.zero_add, cell_of_row _ _ _ _ _ _ h, Array.getElem?_eq_getElem hj]
  exact ⟨rfl, by simp [World.frozen?, h]⟩

theorem there_below {w w' : World} {b n m : Nat} (h : w.there b 0 m) (hb : Below n w w') (hn : b < n) : w'.there b 0 m := fun j hj => by
  have := h j hj
  rw [hb.cell (p := ⟨b, 0 + j, none⟩) hn, hb.frozen (p := ⟨b, 0 + j, none⟩) hn]; exact this

theorem heap_setCells_far (b : Nat) : ∀ (vs : List Value) (o : Nat) (w : World) (k : Nat), k ≠ b → (w.setCells b o vs).heap[k]? = w.heap[k]?
  | [], _, _, _, _ => rfl
  | v :: vs, o, w, k, h => by
    show ((w.setCell ⟨b, o, none⟩ v).setCells b (o + 1) vs).heap[k]? = _
    rw [heap_setCells_far b vs (o + 1) _ k h, heap_setCell_other _ _ _ _ h]

theorem cell_setCells_far (w : World) (b o : Nat) (vs : List Value) (x : Addr) (h : x.block ≠ b) : (w.setCells b o vs).cell? x = w.cell? x :=
  World.cell?_of_block (w := w) (heap_setCells_far b vs o w x.block h)

theorem size_setCells (b : Nat) : ∀ (vs : List Value) (o : Nat) (w : World), (w.setCells b o vs).heap.size = w.heap.size
  | [], _, _ => rfl
  | v :: vs, o, w => by
    show ((w.setCell ⟨b, o, none⟩ v).setCells b (o + 1) vs).heap.size = _
    rw [size_setCells b vs (o + 1)]; simp [World.setCell]

theorem rest_setCells (b : Nat) : ∀ (vs : List Value) (o : Nat) (w : World), (w.setCells b o vs).os = w.os ∧ (w.setCells b o vs).tape = w.tape ∧ (w.setCells b o vs).output = w.output
  | [], _, _ => ⟨rfl, rfl, rfl⟩
  | v :: vs, o, w => by
    show ((w.setCell ⟨b, o, none⟩ v).setCells b (o + 1) vs).os = _ ∧ _
    exact rest_setCells b vs (o + 1) (w.setCell ⟨b, o, none⟩ v)

theorem below_setCells {n : Nat} {w w' : World} (h : Below n w w') {b : Nat} (hb : n ≤ b) (o : Nat) (vs : List Value) : Below n w (w'.setCells b o vs) := by
  obtain ⟨h1, h2, h3⟩ := rest_setCells b vs o w'
  exact ⟨h1.trans h.os, h2.trans h.tape, h3.trans h.output, by rw [size_setCells]; exact h.size, fun k hk => by rw [heap_setCells_far b vs o w' k (by omega)]; exact h.block k hk⟩

theorem storeCells_run (b : Nat) (vs : List Value) (w : World) (ht : w.there b 0 vs.length) (h1 : ∀ v ∈ vs, v.oneCell' = true) : (storeCells ⟨b, 0, none⟩ vs).run Tryz.prog w = .ok () (w.setCells b 0 vs) :=
  run_storeCells_cells (P := Tryz.prog) b 0 vs 0 w (fun j hj => by simpa using (ht j hj).1) (fun j hj => by simpa using (ht j hj).2) h1

set_option maxRecDepth 100000 in
set_option maxHeartbeats 4000000 in
theorem bnew_ok (K M O S z : Nat) (w : World) (hK : 1 ≤ K ∧ K ≤ 20) (hM : 1 ≤ M ∧ M ≤ 20) (hO : 1 ≤ O ∧ O ≤ M) (hS : S ≤ 65535) (hz : 1 ≤ z ∧ z ≤ 16) :
    Calls Tryz.prog 51 #[specV K M O S, .int .i64 (z : Int)] w fun e w' => e = .returned (.tuple #[.agg (newV K (K + M) z (ofs K M O S)), .int .i64 0]) ∧ Below w.heap.size w w' := by
  have hbuild : ∀ w, (builtAs #[(0, .int .i64 (K : Int)), (1, .int .i64 ((K + M : Nat) : Int)), (2, .int .i64 (z : Int)), (3, .agg (tabV (ofs K M O S)))]).run Tryz.prog w = .ok (.agg (newV K (K + M) z (ofs K M O S))) w := fun w => run_build (P := Tryz.prog) w 85 #[(0, .int .i64 (K : Int)), (1, .int .i64 ((K + M : Nat) : Int)), (2, .int .i64 (z : Int)), (3, .agg (tabV (ofs K M O S)))] _ (built_box K (K + M) z (ofs K M O S))
  have Hb := hide hbuild
  clear hbuild
  have hzb := zero_box
  go_enter Tryz.func51, Tryz.ntmps51
  go_wp2_with fail
  clear hzb
  refine (wrows_ok K M O S _ hK hM hO hS).mono ?_
  rintro e w1 ⟨g, rv, rfl, hrows, hg, hb1⟩
  simp only [World.size_alloc] at hb1 hg
  have hsp : w1.heap[w.heap.size]? = some (.cells #[.int .i64 (K : Int), .int .i64 (M : Int), .int .i64 (O : Int), .int .i64 (S : Int)] 25 (0, 0)) := by
    rw [hb1.block _ (by omega), heap_alloc_old _ _ (by simp)]; exact heap_alloc_new w _
  have hres : w1.heap[w.heap.size + 1]? = some (.cells (newV 0 0 0 (fun _ => 0)) 85 (0, 0)) := by
    rw [hb1.block _ (by omega)]; exact heap_alloc2_new w _ _
  obtain ⟨c0, c1, c2, c3⟩ : w1.cell? ⟨w.heap.size, 0, none⟩ = some (.int .i64 (K : Int)) ∧ w1.cell? ⟨w.heap.size, 1, none⟩ = some (.int .i64 (M : Int)) ∧ w1.cell? ⟨w.heap.size, 2, none⟩ = some (.int .i64 (O : Int)) ∧ w1.cell? ⟨w.heap.size, 3, none⟩ = some (.int .i64 (S : Int)) := by
    refine ⟨?_, ?_, ?_, ?_⟩ <;> rw [cell_of_row _ _ _ _ _ _ hsp] <;> rfl
  have z1 : ¬ (z : Int) < 1 := by omega
  have z2 : ¬ (16 : Int) < (z : Int) := by omega
  have ht := there_of_row hres
  rw [newV_size] at ht
  have hu := Tryz.underlying85
  have hi : (Tryz.prog.info? 85).map (·.size) = some (newL K (K + M) z (ofs K M O S)).length := by rw [newL_length]; exact Tryz.sizeBox
  have hsz := newL_length K (K + M) z (ofs K M O S)
  have hone := newL_one K (K + M) z (ofs K M O S)
  have hb := Hb.out
  have hwr : ((K + M : Nat) : Int) = IntKind.i64.wrap ((K : Int) + (M : Int)) := by rw [← Int.natCast_add, wrapNat _ (by omega)]
  rw [hwr] at hb
  clear hwr
  have hst : ∀ W : World, W.there (w.heap.size + 1) 0 83 → (storeCells ⟨w.heap.size + 1, 0, none⟩ (newL K (K + M) z (ofs K M O S))).run Tryz.prog W = .ok () (W.setCells (w.heap.size + 1) 0 (newL K (K + M) z (ofs K M O S))) := fun W hW => storeCells_run _ _ _ (by rw [hsz]; exact hW) hone
  have hs1 : w.heap.size + 2 ≤ w1.heap.size := by have := hb1.size; simp at this; omega
  obtain ⟨cs, hcs⟩ : ∃ cs, cs = newL K (K + M) z (ofs K M O S) := ⟨_, rfl⟩
  have Hcs := hide hcs
  unfold newV at hb
  rw [← hcs] at hb hi hsz hone hst
  clear c2 c3 Hb hcs hi hu
  go_wp2_with fail
  go_region_held3 (fun w' => w'.cell? ⟨w.heap.size, 0, none⟩ = some (.int .i64 (K : Int)) ∧ w'.cell? ⟨w.heap.size, 1, none⟩ = some (.int .i64 (M : Int)) ∧ w'.there (w.heap.size + 1) 0 83)
    (first | (exact ⟨j0, j1, j2⟩) | (exact ⟨(cell_setCells_far w2 _ _ _ _ (by show w.heap.size ≠ w.heap.size + 1; omega)).trans j0, (cell_setCells_far w2 _ _ _ _ (by show w.heap.size ≠ w.heap.size + 1; omega)).trans j1, World.there_setCells j2 _ _ _⟩) | go_keep_ranges)
    (first
      | (go_at_call 85; refine (dataOf_tab K M O S g (g + 1) rv _ hK hM ?_).mono ?_; (first | exact hrows | exact hrows.drew); rintro e w2 ⟨rfl, hb2⟩; have j0 := (hb2.cell (p := ⟨w.heap.size, 0, none⟩) (show w.heap.size < w1.heap.size from by omega)).trans c0; have j1 := (hb2.cell (p := ⟨w.heap.size, 1, none⟩) (show w.heap.size < w1.heap.size from by omega)).trans c1; have j2 := there_below (w := w1.drew) (n := w1.heap.size) ht hb2 (by omega)))
  have hr := World.rangeAt_setCells_same w2 (w.heap.size + 1) 0 cs (by rw [hsz]; exact j2)
  have hb3 : Below w.heap.size w (w2.setCells (w.heap.size + 1) 0 cs) := by
    have h1 : Below w.heap.size w w1 := (((Below.refl w.heap.size w).alloc (Nat.le_refl _) _).alloc (by simp) _).trans (hb1.mono (by omega))
    have h2 : Below w.heap.size w w2 := h1.drew.trans (Below.mono hb2 (show w.heap.size ≤ w1.heap.size from by omega))
    exact below_setCells h2 (Nat.le_succ _) _ _
  clear hb1 hb2 hrows c0 c1 ht hst hb j0 j1 j2 hres hsp
  go_wp2_with fail
  refine bodyPost_ret (v := .tuple #[.agg cs.toArray, .int .i64 0]) ?_ rfl ⟨by rw [Hcs.out], hb3⟩
  rw [results_cell_tmp Tryz.results51]
  have hl := run_loadVar_mid (P := Tryz.prog) _ (w.heap.size + 1) 0 85 cs _ hr Tryz.underlying85 rfl (by rw [hsz]; exact Tryz.sizeBox)
  simp [asAddr, hl]

abbrev zeroL : List Value := newL 0 0 0 (fun _ => 0)

set_option maxRecDepth 100000 in
set_option maxHeartbeats 4000000 in
theorem bnew_bad (K M O S z : Int) (w : World) (hmay : mayB K M O S = false) :
    Calls Tryz.prog 51 #[specV K M O S, .int .i64 z] w fun e w' => e = .returned (.tuple #[.agg zeroL.toArray, .int .i64 1]) ∧ Below w.heap.size w w' := by
  have hb : ∀ w, (builtAs #[]).run Tryz.prog w = .ok (.agg zeroL.toArray) w := fun w => run_build (P := Tryz.prog) w 85 #[] _ built_none
  have hzb : ∀ w, (zeroValue 85).run Tryz.prog w = .ok (.agg zeroL.toArray) w := zero_box
  have hsz : zeroL.length = 83 := newL_length 0 0 0 (fun _ => 0)
  have hone := newL_one 0 0 0 (fun _ => 0)
  have hst : ∀ W : World, W.there (w.heap.size + 1) 0 83 → (storeCells ⟨w.heap.size + 1, 0, none⟩ zeroL).run Tryz.prog W = .ok () (W.setCells (w.heap.size + 1) 0 zeroL) := fun W hW => storeCells_run _ _ _ (by rw [hsz]; exact hW) hone
  obtain ⟨cs, hcs⟩ : ∃ cs, cs = zeroL := ⟨_, rfl⟩
  have Hcs := hide hcs
  rw [← hcs] at hb hzb hsz hst
  clear hcs hone
  go_enter Tryz.func51, Tryz.ntmps51
  go_wp2_with fail
  clear hzb
  refine (wrows_bad K M O S _ hmay).mono ?_
  rintro e w1 ⟨rfl, hb1⟩
  simp only [World.size_alloc] at hb1
  have hres : w1.heap[w.heap.size + 1]? = some (.cells cs.toArray 85 (0, 0)) := by
    rw [hb1.block _ (by omega)]; exact heap_alloc2_new w _ _
  have ht : w1.there (w.heap.size + 1) 0 83 := by
    have h := there_of_row hres
    rwa [show cs.toArray.size = 83 from by simp [hsz]] at h
  have hst1 := hst w1 ht
  have hr := World.rangeAt_setCells_same w1 (w.heap.size + 1) 0 cs (by rw [hsz]; exact ht)
  have hb3 : Below w.heap.size w (w1.setCells (w.heap.size + 1) 0 cs) := by
    have h1 : Below w.heap.size w w1 := (((Below.refl w.heap.size w).alloc (Nat.le_refl _) _).alloc (by simp) _).trans (hb1.mono (by omega))
    exact below_setCells h1 (Nat.le_succ _) _ _
  clear hb1 hst ht hres
  go_wp2_with fail
  refine bodyPost_ret (v := .tuple #[.agg cs.toArray, .int .i64 1]) ?_ rfl ⟨by rw [Hcs.out], hb3⟩
  rw [results_cell_tmp Tryz.results51]
  have hl := run_loadVar_mid (P := Tryz.prog) _ (w.heap.size + 1) 0 85 cs _ hr Tryz.underlying85 rfl (by rw [hsz]; exact Tryz.sizeBox)
  simp [asAddr, hl]

set_option maxRecDepth 100000 in
set_option maxHeartbeats 4000000 in
theorem bnew_arg (K M O S : Nat) (z : Int) (w : World) (hK : 1 ≤ K ∧ K ≤ 20) (hM : 1 ≤ M ∧ M ≤ 20) (hO : 1 ≤ O ∧ O ≤ M) (hS : S ≤ 65535) (hz : z < 1 ∨ 16 < z) :
    Calls Tryz.prog 51 #[specV K M O S, .int .i64 z] w fun e w' => e = .returned (.tuple #[.agg zeroL.toArray, .int .i64 2]) ∧ Below w.heap.size w w' := by
  have hb : ∀ w, (builtAs #[]).run Tryz.prog w = .ok (.agg zeroL.toArray) w := fun w => run_build (P := Tryz.prog) w 85 #[] _ built_none
  have hzb : ∀ w, (zeroValue 85).run Tryz.prog w = .ok (.agg zeroL.toArray) w := zero_box
  have hsz : zeroL.length = 83 := newL_length 0 0 0 (fun _ => 0)
  have hone := newL_one 0 0 0 (fun _ => 0)
  have hst : ∀ W : World, W.there (w.heap.size + 1) 0 83 → (storeCells ⟨w.heap.size + 1, 0, none⟩ zeroL).run Tryz.prog W = .ok () (W.setCells (w.heap.size + 1) 0 zeroL) := fun W hW => storeCells_run _ _ _ (by rw [hsz]; exact hW) hone
  obtain ⟨cs, hcs⟩ : ∃ cs, cs = zeroL := ⟨_, rfl⟩
  have Hcs := hide hcs
  rw [← hcs] at hb hzb hsz hst
  clear hcs hone
  go_enter Tryz.func51, Tryz.ntmps51
  go_wp2_with fail
  clear hzb
  refine (wrows_ok K M O S _ hK hM hO hS).mono ?_
  rintro e w1 ⟨g, rv, rfl, _, hg, hb1⟩
  simp only [World.size_alloc] at hb1 hg
  have hres : w1.heap[w.heap.size + 1]? = some (.cells cs.toArray 85 (0, 0)) := by
    rw [hb1.block _ (by omega)]; exact heap_alloc2_new w _ _
  have ht : w1.there (w.heap.size + 1) 0 83 := by
    have h := there_of_row hres
    rwa [show cs.toArray.size = 83 from by simp [hsz]] at h
  have hst1 := hst w1 ht
  have hr := World.rangeAt_setCells_same w1 (w.heap.size + 1) 0 cs (by rw [hsz]; exact ht)
  have hb3 : Below w.heap.size w (w1.setCells (w.heap.size + 1) 0 cs) := by
    have h1 : Below w.heap.size w w1 := (((Below.refl w.heap.size w).alloc (Nat.le_refl _) _).alloc (by simp) _).trans (hb1.mono (by omega))
    exact below_setCells h1 (Nat.le_succ _) _ _
  clear hb1 hst ht hres
  rcases hz with hz | hz
  all_goals
    go_wp2_with fail
    refine bodyPost_ret (v := .tuple #[.agg cs.toArray, .int .i64 2]) ?_ rfl ⟨by rw [Hcs.out], hb3⟩
    rw [results_cell_tmp Tryz.results51]
    have hl := run_loadVar_mid (P := Tryz.prog) _ (w.heap.size + 1) 0 85 cs _ hr Tryz.underlying85 rfl (by rw [hsz]; exact Tryz.sizeBox)
    simp [asAddr, hl]

end Go.Proofs.YtnjaofkieajnlaaGreat
