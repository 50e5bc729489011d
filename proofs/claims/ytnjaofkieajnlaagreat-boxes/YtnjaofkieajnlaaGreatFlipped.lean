/- A piece with one bit turned is another piece of the same size. -/
import Derived.Test.YtnjaofkieajnlaaGreatWord
import Derived.Laws.IdiomStrings
namespace Go.Proofs.YtnjaofkieajnlaaGreat
open Go.RowKit

/-- The bytes of a text, laid into a row of the call's own. -/
theorem bytes_run (s : ByteArray) (w : World) : ∃ cap W1, (convert 9 106 (.string s)).run Tryz.prog w = .ok (.slice (some ⟨w.heap.size, 0, none⟩) s.size cap) W1 ∧
    (∀ j, j < s.size → W1.cell? ⟨w.heap.size, j, none⟩ = some (.int .u8 ((byteAt s j).toNat : Int))) ∧ (∀ j, j < s.size → W1.frozen? ⟨w.heap.size, j, none⟩ = false) ∧ Below w.heap.size w W1 ∧ w.heap.size < W1.heap.size := by
  have h := run_bytes_of_string (P := Tryz.prog) w 9 106 5 s Tryz.underlying9 Tryz.underlying106 Tryz.underlying5
  refine ⟨_, _, h, fun j hj => ?_, fun j hj => ?_, (Below.refl _ _).drew.alloc (Nat.le_refl _) _, by simp⟩
  · have hd : w.drew.heap.size = w.heap.size := rfl
    rw [← hd, World.cell?_alloc_mark]
    unfold bytesRow
    rw [Array.getElem?_append_left (by simpa using hj)]
    have hj2 : j < s.data.size := hj
    rw [Array.getElem?_map, Array.getElem?_eq_getElem hj2]
    have := byteAt_get s j hj
    rw [← this]
    rfl
  · have hd : w.drew.heap.size = w.heap.size := rfl
    rw [← hd, World.frozen?_alloc_mark]
    have : j < (bytesRow s (grownCap w s.size 0 5)).size := by
      unfold bytesRow
      rw [Array.size_append, Array.size_map]
      have : s.data.size = s.size := rfl
      omega
    simp
    omega

/-- A text with another byte at m. -/
def setByte (p : ByteArray) (m : Nat) (x : UInt8) : ByteArray := ⟨(p.data.toList.set m x).toArray⟩

theorem setByte_size (p : ByteArray) (m : Nat) (x : UInt8) : (setByte p m x).size = p.size := by
  show (p.data.toList.set m x).toArray.size = p.size
  rw [List.size_toArray, List.length_set]; rfl

theorem byteAt_setByte (p : ByteArray) (m : Nat) (x : UInt8) (hm : m < p.size) (i : Nat) : byteAt (setByte p m x) i = if i = m then x else byteAt p i := by
  unfold byteAt setByte
  have hm2 : m < p.data.toList.length := by simpa using hm
  simp only [List.getD_eq_getElem?_getD]
  by_cases e : i = m
  · subst e
    rw [if_pos rfl]
    show ((p.data.toList.set i x).toArray.toList)[i]?.getD 0 = x
    rw [List.toList_toArray, List.getElem?_set_self hm2]; rfl
  · rw [if_neg e]
    show ((p.data.toList.set m x).toArray.toList)[i]?.getD 0 = _
    rw [List.toList_toArray, List.getElem?_set_ne (by omega)]

theorem setByte_ne (p : ByteArray) (m : Nat) (x : UInt8) (hm : m < p.size) (hx : x ≠ byteAt p m) : setByte p m x ≠ p := by
  intro e
  have h := byteAt_setByte p m x hm m
  rw [e, if_pos rfl] at h
  exact hx h.symm

theorem pow_u8 (b : Nat) (hb : b < 8) : (2 : Int) ^ b % 256 = (((1 : UInt8) <<< UInt8.ofNat b).toNat : Int) ∧ (1 : UInt8) <<< UInt8.ofNat b ≠ 0 := by
  have h : b = 0 ∨ b = 1 ∨ b = 2 ∨ b = 3 ∨ b = 4 ∨ b = 5 ∨ b = 6 ∨ b = 7 := by omega
  rcases h with rfl | rfl | rfl | rfl | rfl | rfl | rfl | rfl <;> exact ⟨by decide, by decide⟩

theorem xor_other (a y : UInt8) (hy : y ≠ 0) : a ^^^ y ≠ a := by
  intro e
  apply hy
  have h : a ^^^ (a ^^^ y) = a ^^^ a := by rw [e]
  rwa [← UInt8.xor_assoc, UInt8.xor_self, UInt8.zero_xor] at h

end Go.Proofs.YtnjaofkieajnlaaGreat
