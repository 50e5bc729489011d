/- handed and still: a list that is handed over with eight marks in its spare room, and the look whether it stands as it did. -/
import Derived.Test.YtnjaofkieajnlaaGreatHanded
namespace Go.Proofs.YtnjaofkieajnlaaGreat
open Go.RowKit

/-- The mark. -/
abbrev markB : ByteArray := ⟨#[109, 97, 114, 107]⟩

/-- Text i of a list that is being handed over, k marks behind it. -/
def handedAt (l : List ByteArray) (k i : Nat) : ByteArray := if i < l.length then l.getD i ByteArray.empty else if i < l.length + k then markB else ByteArray.empty

theorem handedAt_step (l : List ByteArray) (k i : Nat) : (if i = l.length + k then markB else handedAt l k i) = handedAt l (k + 1) i := by
  unfold handedAt
  by_cases h1 : i < l.length
  · rw [if_neg (by omega), if_pos h1, if_pos h1]
  · rw [if_neg h1, if_neg h1]
    by_cases e : i = l.length + k
    · rw [if_pos e, if_pos (show i < l.length + (k + 1) from by omega)]
    · rw [if_neg e]
      by_cases h2 : i < l.length + k
      · rw [if_pos h2, if_pos (by omega)]
      · rw [if_neg h2, if_neg (by omega)]

theorem handedAt_in (l : List ByteArray) (k i : Nat) (h : i < l.length) : handedAt l k i = l.getD i ByteArray.empty := by simp [handedAt, h]
theorem handedAt_mark (l : List ByteArray) (k i : Nat) (h : i < k) : handedAt l k (l.length + i) = markB := by
  unfold handedAt
  rw [if_neg (by omega), if_pos (by omega)]

/-- A list with eight marks behind it lies in block g. -/
abbrev HandedAt (w : World) (g : Nat) (l : List ByteArray) : Prop := w.rowIs g 9 (l.length + 8) (fun i => .string (handedAt l 8 i))

theorem HandedAt.texts {w : World} {g : Nat} {l : List ByteArray} (h : HandedAt w g l) : TextsAt w (.slice (some ⟨g, 0, none⟩) l.length (l.length + 8)) l :=
  ⟨_, _, rfl, by omega, fun k hk => ⟨g, 0, rfl, h.lt, by rw [Nat.zero_add, h.cell (by omega), handedAt_in l 8 k hk]⟩⟩

theorem splice_row {w : World} {g : Nat} {l : List ByteArray} (h : w.heap[g]? = some (.cells (splice (madeCells #[Value.string ByteArray.empty] (l.length + 8)).toList 0 (l.map Value.string)).toArray 9 (0, 0))) :
    w.rowIs g 9 (l.length + 8) (fun i => .string (handedAt l 0 i)) := by
  refine ⟨_, h, ?_, fun i hi => ?_⟩
  · rw [List.size_toArray, length_splice _ _ _ (by simp [size_madeCells])]; simp [size_madeCells]
  · rw [List.getElem?_toArray]
    unfold splice handedAt
    show _ = some (Value.string (if i < l.length then l.getD i ByteArray.empty else if i < l.length + 0 then markB else ByteArray.empty))
    rw [List.take_zero, List.nil_append, List.getElem?_append]
    by_cases h1 : i < l.length
    · rw [if_pos (by simpa using h1), if_pos h1]
      simp [h1]
    · rw [if_neg (by simpa using h1), if_neg h1, if_neg (by omega)]
      rw [List.getElem?_drop, Array.getElem?_toList]
      have e : 0 + (l.map Value.string).length + (i - (l.map Value.string).length) = i := by simp; omega
      rw [e]
      simp [madeCells, hi, Nat.mod_one]

theorem copy_run (l : List ByteArray) (ao : Option Addr) (cap : Nat) (w : World) (hc : ∀ k, k < l.length → ∃ q o, ao = some ⟨q, o, none⟩ ∧ q < w.heap.size ∧ w.cell? ⟨q, o + k, none⟩ = some (.string (l.getD k ByteArray.empty))) :
    ∃ W1, (∀ ty, (Builtin.copy_ #[27, 27] ty #[.slice (some ⟨w.heap.size, 0, none⟩) (l.length + 8) (l.length + 8), .slice ao l.length cap]).run Tryz.prog (w.alloc (.cells (madeCells #[.string ByteArray.empty] (l.length + 8)) 9)) = .ok (goInt l.length) W1) ∧
      W1.rowIs w.heap.size 9 (l.length + 8) (fun i => .string (handedAt l 0 i)) ∧ Below w.heap.size w W1 := by
  have hsz1 : (Tryz.prog.info? 9).map (·.size) = some 1 := by kernel_rfl
  by_cases h0 : l.length = 0
  · have hl : l = [] := List.eq_nil_of_length_eq_zero h0
    subst hl
    refine ⟨_, fun ty => run_copy_none (P := Tryz.prog) _ 27 27 ty 9 _ ao _ _ _ _ Tryz.underlying27 hsz1 (by simp), ?_, (Below.refl _ _).alloc (Nat.le_refl _) _⟩
    refine (World.rowIs_made w (.string ByteArray.empty) ([].length + 8) 9).congr (fun i _ => ?_)
    simp [handedAt]
  · obtain ⟨q, o, rfl, hq, _⟩ := hc 0 (by omega)
    have hcells := texts_cells hc rfl
    have hrun := fun ty => run_copy_row (P := Tryz.prog) (w.alloc (.cells (madeCells #[.string ByteArray.empty] (l.length + 8)) 9)) 27 27 ty 9 w.heap.size 0 (l.length + 8) (l.length + 8) ⟨q, o, none⟩ l.length cap (madeCells #[.string ByteArray.empty] (l.length + 8)) 9 (l.map Value.string) Tryz.underlying27 hsz1 (heap_alloc_new w _) (by simp) (fun j v hj => by
      have hjl : j < l.length := by have := (List.getElem?_eq_some_iff.1 hj).1; simpa using this
      rw [Addr.add_mid, World.cell?_alloc_lt _ _ _ (by exact hq), hcells j hjl]
      rw [List.getElem?_map, List.getElem?_eq_getElem hjl] at hj
      simp at hj
      subst hj
      simp [hjl]) (by simp [size_madeCells]) (fun v hv => by
      obtain ⟨x, _, rfl⟩ := List.mem_map.1 hv
      rfl)
    simp only [List.length_map] at hrun
    refine ⟨_, hrun, ?_, below_setRow ((Below.refl _ _).alloc (Nat.le_refl _) _) (Nat.le_refl _) _⟩
    refine splice_row ?_
    rw [setRow_heap _ _ _ _ _ _ (heap_alloc_new w _)]
    simp [splice]

set_option maxRecDepth 100000 in
set_option maxHeartbeats 2000000 in
theorem handed_any (v : Value) (l : List ByteArray) (w : World) (hl : l.length ≤ 8796093022208) (ht : TextsAt w v l) :
    Calls Tryz.prog 72 #[v] w fun e w' => ∃ g, e = .returned (.slice (some ⟨g, 0, none⟩) l.length (l.length + 8)) ∧ HandedAt w' g l ∧ w.heap.size ≤ g ∧ Below w.heap.size w w' := by
  obtain ⟨ao, cap, rfl, hcap, hc⟩ := ht
  have hmk : ∀ w, (Instr.makeSlice 27 (.int .i64 ((l.length : Int) + 8)) (.int .i64 ((l.length : Int) + 8))).run Tryz.prog w = .ok (.slice (some ⟨w.heap.size, 0, none⟩) (l.length + 8) (l.length + 8)) (w.alloc (.cells (madeCells #[.string ByteArray.empty] (l.length + 8)) 9)) := fun w => by
    have h := run_make_row' (P := Tryz.prog) 27 9 (.string ByteArray.empty) 16 Tryz.underlying27 Tryz.infoText rfl .i64 .i64 (l.length + 8) (by omega) (by omega) w
    rw [show ((l.length + 8 : Nat) : Int) = (l.length : Int) + 8 from by omega] at h
    exact h
  obtain ⟨W1, hrun, hrow, hbel⟩ := copy_run l ao cap w hc
  clear hc
  have Hb := hide hbel
  have Hr := hide hrow
  clear hbel hrow
  go_enter Tryz.func72, Tryz.ntmps72
  go_wp2
  clear hrun hmk
  go_loopw [14] (fun i wr => ∃ k : Nat, k ≤ 8 ∧ i = .int .i64 k ∧ wr.rowIs w.heap.size 9 (l.length + 8) (fun i => .string (handedAt l k i)) ∧ Below w.heap.size w wr) (fun i _ => 8 - (intOf i).toNat)
  case atStart => exact ⟨0, by omega, rfl, Hr.out, Hb.out⟩
  case round =>
    clear Hr Hb
    obtain ⟨k, hk, rfl, hrow, hbel⟩ := hrel
    by_cases hlt : k < 8
    · have hcell := hrow.cell (show l.length + k < l.length + 8 from by omega)
      have hfrz := hrow.frozen (l.length + k)
      have hnext : (wr.setCell ⟨w.heap.size, l.length + k, none⟩ (.string markB)).rowIs w.heap.size 9 (l.length + 8) (fun i => .string (handedAt l (k + 1) i)) :=
        (hrow.set (l.length + k) (.string markB)).congr (fun i _ => by rw [← handedAt_step]; split <;> rfl)
      have hb2 := hbel.setCell (p := ⟨w.heap.size, l.length + k, none⟩) (Nat.le_refl _) (.string markB)
      clear hrow hbel
      go_wp2
      go_roundw
      case rel => exact ⟨k + 1, by omega, by go_num, hnext, hb2⟩
      case measure => simp [intOf]; omega
    · have hk8 : k = 8 := by omega
      subst hk8
      go_wp2
      go_ret
      exact ⟨_, rfl, hrow, Nat.le_refl _, hbel⟩

set_option maxRecDepth 100000 in
set_option maxHeartbeats 2000000 in
/-- still says yes where the list and its marks stand as they were laid. -/
theorem still_yes (v : Value) (l : List ByteArray) (g : Nat) (w : World) (hl : l.length ≤ 8796093022208) (hh : HandedAt w g l) (ht : TextsAt w v l) :
    Calls Tryz.prog 74 #[.slice (some ⟨g, 0, none⟩) l.length (l.length + 8), v] w fun e w' => e = .returned (.bool true) ∧ Chg (fun _ => False) w w' := by
  obtain ⟨ao, cap, hv, hcap, hc⟩ := ht
  have ht : TextsAt w v l := ⟨ao, cap, hv, hcap, hc⟩
  have HT := hide ht
  have HH := hide hh
  subst hv
  clear hc ht hh
  go_enter Tryz.func74, Tryz.ntmps74
  go_wp2_with fail
  refine (sameTexts_yes _ _ l _ hl HH.out.texts HT.out).mono ?_
  rintro e w1 ⟨rfl, hcg⟩
  have hh1 : HandedAt w1 g l := HH.out.of_block (hcg.block g HH.out.lt (fun x => x))
  have Hcg := hide hcg
  have Hh := hide hh1
  clear hcg hh1 HT HH
  go_wp2
  go_loop [18] (fun i => ∃ k : Nat, k ≤ 8 ∧ i = .int .i64 k) (fun i => 8 - (intOf i).toNat)
  case atStart => exact ⟨0, by omega, rfl⟩
  case round =>
    obtain ⟨k, hk, rfl⟩ := hrel
    by_cases hlt : k < 8
    · have hcell := Hh.out.cell (show l.length + k < l.length + 8 from by omega)
      rw [handedAt_mark l 8 k hlt] at hcell
      go_wp2
      go_round
      case rel => exact ⟨k + 1, by omega, by go_num⟩
      case measure => simp [intOf]; omega
    · go_wp2
      go_ret
      exact ⟨rfl, Hcg.out⟩

end Go.Proofs.YtnjaofkieajnlaaGreat
