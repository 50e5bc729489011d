/- handed and still: a list that is handed over with eight marks in its spare room, and the look whether it stands as it did. -/
import Derived.Test.YtnjaofkieajnlabHanded
namespace Go.Proofs.Ytnjaofkieajnlab
open Go.RowKit

/-- The mark. -/
abbrev markB : ByteArray := ⟨#[109, 97, 114, 107]⟩

/-- Text i of a list that is being handed over, k marks behind it. -/
def handedAt (l : List ByteArray) (k i : Nat) : ByteArray := if i < l.length then l.getD i ByteArray.empty else if i < l.length + k then markB else ByteArray.empty

theorem handedAt_step (l : List ByteArray) (k i : Nat) : (if i = l.length + k then markB else handedAt l k i) = handedAt l (k + 1) i := by
  unfold handedAt
  by_cases h1 : i < l.length
  · rw [if_neg (by omega), if_pos h1, if_pos h1]
  · rw [if_neg h1, if_neg h1]
    by_cases e : i = l.length + k
    · rw [if_pos e, if_pos (show i < l.length + (k + 1) from by omega)]
    · rw [if_neg e]
      by_cases h2 : i < l.length + k
      · rw [if_pos h2, if_pos (by omega)]
      · rw [if_neg h2, if_neg (by omega)]

theorem handedAt_in (l : List ByteArray) (k i : Nat) (h : i < l.length) : handedAt l k i = l.getD i ByteArray.empty := by simp [handedAt, h]
theorem handedAt_mark (l : List ByteArray) (k i : Nat) (h : i < k) : handedAt l k (l.length + i) = markB := by
  unfold handedAt
  rw [if_neg (by omega), if_pos (by omega)]

/-- A list with eight marks behind it lies in block g. -/
abbrev HandedAt (w : World) (g : Nat) (l : List ByteArray) : Prop := w.rowIs g 9 (l.length + 8) (fun i => .string (handedAt l 8 i))

theorem HandedAt.texts {w : World} {g : Nat} {l : List ByteArray} (h : HandedAt w g l) : TextsAt w (.slice (some ⟨g, 0, none⟩) l.length (l.length + 8)) l :=
  ⟨_, _, rfl, by omega, fun k hk => ⟨g, 0, rfl, h.lt, by rw [Nat.zero_add, h.cell (by omega), handedAt_in l 8 k hk]⟩⟩

theorem splice_row {w : World} {g : Nat} {l : List ByteArray} (h : w.heap[g]? = some (.cells (splice (madeCells #[Value.string ByteArray.empty] (l.length + 8)).toList 0 (l.map Value.string)).toArray 9 (0, 0))) :
    w.rowIs g 9 (l.length + 8) (fun i => .string (handedAt l 0 i)) := by
  refine ⟨_, h, ?_, fun i hi => ?_⟩
  · rw [List.size_toArray, length_splice _ _ _ (by simp [size_madeCells])]; simp [size_madeCells]
  · rw [List.getElem?_toArray]
    unfold splice handedAt
    show _ = some (Value.string (if i < l.length then l.getD i ByteArray.empty else if i < l.length + 0 then markB else ByteArray.empty))
    rw [List.take_zero, List.nil_append, List.getElem?_append]
    by_cases h1 : i < l.length
    · rw [if_pos (by simpa using h1), if_pos h1]
      simp [h1]
    · rw [if_neg (by simpa using h1), if_neg h1, if_neg (by omega)]
      rw [List.getElem?_drop, Array.getElem?_toList]
      have e : 0 + (l.map Value.string).length + (i - (l.map Value.string).length) = i := by simp; omega
      rw [e]
      simp [madeCells, hi, Nat.mod_one]

theorem copy_run (l : List ByteArray) (ao : Option Addr) (cap : Nat) (w : World) (hc : ∀ k, k < l.length → ∃ q o, ao = some ⟨q, o, none⟩ ∧ q < w.heap.size ∧ w.cell? ⟨q, o + k, none⟩ = some (.string (l.getD k ByteArray.empty))) :
    ∃ W1, (∀ ty, (Builtin.copy_ #[27, 27] ty #[.slice (some ⟨w.heap.size, 0, none⟩) (l.length + 8) (l.length + 8), .slice ao l.length cap]).run Try.prog (w.alloc (.cells (madeCells #[.string ByteArray.empty] (l.length + 8)) 9)) = .ok (goInt l.length) W1) ∧
      W1.rowIs w.heap.size 9 (l.length + 8) (fun i => .string (handedAt l 0 i)) ∧ Below w.heap.size w W1 := by
  have hsz1 : (Try.prog.info? 9).map (·.size) = some 1 := by kernel_rfl
  by_cases h0 : l.length = 0
  · have hl : l = [] := List.eq_nil_of_length_eq_zero h0
    subst hl
    refine ⟨_, fun ty => run_copy_none (P := Try.prog) _ 27 27 ty 9 _ ao _ _ _ _ Try.underlying27 hsz1 (by simp), ?_, (Below.refl _ _).alloc (Nat.le_refl _) _⟩
    refine (World.rowIs_made w (.string ByteArray.empty) ([].length + 8) 9).congr (fun i _ => ?_)
    simp [handedAt]
  · obtain ⟨q, o, rfl, hq, _⟩ := hc 0 (by omega)
    have hcells := texts_cells hc rfl
    have hrun := fun ty => run_copy_row (P := Try.prog) (w.alloc (.cells (madeCells #[.string ByteArray.empty] (l.length + 8)) 9)) 27 27 ty 9 w.heap.size 0 (l.length + 8) (l.length + 8) ⟨q, o, none⟩ l.length cap (madeCells #[.string ByteArray.empty] (l.length + 8)) 9 (l.map Value.string) Try.underlying27 hsz1 (heap_alloc_new w _) (by simp) (fun j v hj => by
      have hjl : j < l.length := by have := (List.getElem?_eq_some_iff.1 hj).1; simpa using this
      rw [Addr.add_mid, World.cell?_alloc_lt _ _ _ (by exact hq), hcells j hjl]
      rw [List.getElem?_map, List.getElem?_eq_getElem hjl] at hj
      simp at hj
      subst hj
      simp [hjl]) (by simp [size_madeCells]) (fun v hv => by
      obtain ⟨x, _, rfl⟩ := List.mem_map.1 hv
      rfl)
    simp only [List.length_map] at hrun
    refine ⟨_, hrun, ?_, below_setRow ((Below.refl _ _).alloc (Nat.le_refl _) _) (Nat.le_refl _) _⟩
    refine splice_row ?_
    rw [setRow_heap _ _ _ _ _ _ (heap_alloc_new w _)]
    simp [splice]

end Go.Proofs.Ytnjaofkieajnlab
