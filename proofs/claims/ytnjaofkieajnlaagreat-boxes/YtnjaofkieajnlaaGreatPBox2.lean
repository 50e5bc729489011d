/- The program's box in memory; how known sums are taken away from a piece. -/
import Derived.Test.YtnjaofkieajnlaaGreatPBox1
import Derived.Test.YtnjaofkieajnlaaGreatOfMaths
import Derived.Test.YtnjaofkieajnlaaGreatFlipped
namespace Go.Proofs.YtnjaofkieajnlaaGreat
open Go.RowKit

/-- The cells of the program's box. -/
def boxCell (K n z : Nat) (of : Nat → Nat) (kn : Kn) (i : Nat) : Value :=
  if i = 0 then .int .i64 (K : Int) else if i = 1 then .int .i64 (n : Int) else if i = 2 then .int .i64 (z : Int) else if i < 43 then .int .i64 (of (i - 3) : Int) else if (i - 43) % 2 = 0 then .int .i64 ((kn ((i - 43) / 2)).1 : Int) else .string (kn ((i - 43) / 2)).2

/-- The program's box, as its block holds it. -/
def BoxAt (w : World) (p K n z : Nat) (of : Nat → Nat) (kn : Kn) : Prop := w.rowIs p 110 83 (boxCell K n z of kn)

namespace BoxAt
variable {w w' : World} {p K n z : Nat} {of : Nat → Nat} {kn : Kn}

theorem lt (h : BoxAt w p K n z of kn) : p < w.heap.size := World.rowIs.lt h

theorem block (h : BoxAt w p K n z of kn) (hb : w'.heap[p]? = w.heap[p]?) : BoxAt w' p K n z of kn := World.rowIs.of_block h hb

theorem on (h : BoxAt w p K n z of kn) {m : Nat} (hm : w.heap.size ≤ m) (hb : Below m w w') : BoxAt w' p K n z of kn := h.block (hb.block p (Nat.lt_of_lt_of_le h.lt hm))

theorem head (h : BoxAt w p K n z of kn) : w.cell? ⟨p, 0, none⟩ = some (.int .i64 (K : Int)) ∧ w.cell? ⟨p, 1, none⟩ = some (.int .i64 (n : Int)) ∧ w.cell? ⟨p, 2, none⟩ = some (.int .i64 (z : Int)) :=
  ⟨World.rowIs.cell h (i := 0) (by omega), World.rowIs.cell h (i := 1) (by omega), World.rowIs.cell h (i := 2) (by omega)⟩

theorem of_ (h : BoxAt w p K n z of kn) {i : Nat} (hi : i < 40) : w.cell? ⟨p, 3 + i, none⟩ = some (.int .i64 (of i : Int)) := by
  have := World.rowIs.cell h (i := 3 + i) (by omega)
  unfold boxCell at this
  rw [if_neg (by omega), if_neg (by omega), if_neg (by omega), if_pos (by omega), show 3 + i - 3 = i from by omega] at this
  exact this

theorem known (h : BoxAt w p K n z of kn) {j : Nat} (hj : j < 20) : w.cell? ⟨p, 43 + j * 2, none⟩ = some (.int .i64 ((kn j).1 : Int)) ∧ w.cell? ⟨p, 43 + j * 2 + 1, none⟩ = some (.string (kn j).2) := by
  have h1 := World.rowIs.cell h (i := 43 + j * 2) (by omega)
  have h2 := World.rowIs.cell h (i := 43 + j * 2 + 1) (by omega)
  unfold boxCell at h1 h2
  rw [if_neg (by omega), if_neg (by omega), if_neg (by omega), if_neg (by omega), if_pos (by omega), show (43 + j * 2 - 43) / 2 = j from by omega] at h1
  rw [if_neg (by omega), if_neg (by omega), if_neg (by omega), if_neg (by omega), if_neg (by omega), show (43 + j * 2 + 1 - 43) / 2 = j from by omega] at h2
  exact ⟨h1, h2⟩

theorem frozen (h : BoxAt w p K n z of kn) (i : Nat) : w.frozen? ⟨p, i, none⟩ = false := World.rowIs.frozen h i

/-- A sum is stored. -/
theorem store (h : BoxAt w p K n z of kn) {t : Nat} (f : Fct) : BoxAt ((w.setCell ⟨p, 43 + t * 2, none⟩ (.int .i64 (f.1 : Int))).setCell ⟨p, 43 + t * 2 + 1, none⟩ (.string f.2)) p K n z of (fun j => if j = t then f else kn j) := by
  refine ((World.rowIs.set h (43 + t * 2) (.int .i64 (f.1 : Int))).set (43 + t * 2 + 1) (.string f.2)).congr (fun i hi => ?_)
  unfold boxCell
  by_cases e : i = 43 + t * 2 + 1
  · subst e
    rw [if_pos rfl, if_neg (by omega), if_neg (by omega), if_neg (by omega), if_neg (by omega), if_neg (by omega), show (43 + t * 2 + 1 - 43) / 2 = t from by omega]; simp only [if_true]
  · rw [if_neg e]
    by_cases e2 : i = 43 + t * 2
    · subst e2
      rw [if_pos rfl, if_neg (by omega), if_neg (by omega), if_neg (by omega), if_neg (by omega), if_pos (by omega), show (43 + t * 2 - 43) / 2 = t from by omega]; simp only [if_true]
    · rw [if_neg e2]
      by_cases e3 : i < 43
      · by_cases h0 : i = 0
        · rw [if_pos h0, if_pos h0]
        · rw [if_neg h0, if_neg h0]
          by_cases h1 : i = 1
          · rw [if_pos h1, if_pos h1]
          · rw [if_neg h1, if_neg h1]
            by_cases h2 : i = 2
            · rw [if_pos h2, if_pos h2]
            · rw [if_neg h2, if_neg h2, if_pos e3, if_pos e3]
      · have hne : (i - 43) / 2 ≠ t := by omega
        simp only [if_neg hne]

end BoxAt

/-- Bytes in a row of the call's own. -/
structure BytesAt (w : World) (g z : Nat) (f : Nat → UInt8) : Prop where
  lt : g < w.heap.size
  cell : ∀ j, j < z → w.cell? ⟨g, j, none⟩ = some (.int .u8 ((f j).toNat : Int))
  frozen : ∀ j, j < z → w.frozen? ⟨g, j, none⟩ = false

theorem BytesAt.on {w w' : World} {g z m : Nat} {f : Nat → UInt8} (h : BytesAt w g z f) (hm : w.heap.size ≤ m) (hb : Below m w w') : BytesAt w' g z f :=
  ⟨Nat.lt_of_lt_of_le h.lt hb.size, fun j hj => by rw [hb.cell (p := ⟨g, j, none⟩) (Nat.lt_of_lt_of_le h.lt hm)]; exact h.cell j hj, fun j hj => by rw [hb.frozen (p := ⟨g, j, none⟩) (Nat.lt_of_lt_of_le h.lt hm)]; exact h.frozen j hj⟩

theorem BytesAt.congr {w : World} {g z : Nat} {f f' : Nat → UInt8} (h : BytesAt w g z f) (hf : ∀ j, j < z → f j = f' j) : BytesAt w g z f' :=
  ⟨h.lt, fun j hj => by rw [← hf j hj]; exact h.cell j hj, h.frozen⟩

theorem BytesAt.step {w : World} {g z : Nat} {t p : ByteArray} {k : Nat} (h : BytesAt w g z (halfByte t p k)) (hk : k < z) :
    BytesAt (w.setCell ⟨g, k, none⟩ (.int .u8 (((byteAt t k).toNat ^^^ (byteAt p k).toNat : Nat) : Int))) g z (halfByte t p (k + 1)) := by
  refine ⟨by have := h.lt; simp [World.setCell]; exact this, fun j hj => ?_, fun j hj => by rw [World.frozen?_setCell]; exact h.frozen j hj⟩
  by_cases e : j = k
  · subst e
    rw [World.cell?_setCell_same w _ _ (h.cell j hj), ← toNat_xor]
    simp [halfByte]
  · rw [World.cell?_setCell_other w _ _ _ (fun x => e (congrArg Addr.off x).symm), h.cell j hj]
    unfold halfByte
    by_cases l : j < k
    · rw [if_pos l, if_pos (show j < k + 1 from by omega)]
    · rw [if_neg l, if_neg (show ¬ j < k + 1 from by omega)]

end Go.Proofs.YtnjaofkieajnlaaGreat
