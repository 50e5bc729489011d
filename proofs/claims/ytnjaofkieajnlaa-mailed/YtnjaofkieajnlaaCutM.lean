/- A text cut into parts, one after the other, as plain mathematics. -/
import Derived.Test.YtnjaofkieajnlaaMailM
namespace Go.Proofs.Ytnjaofkieajnlaa

/-- The parts of a text, as a list. -/
def cutL (t : ByteArray) (n k : Nat) : List ByteArray := (List.range k).map (partT t n)

theorem cutL_length (t : ByteArray) (n k : Nat) : (cutL t n k).length = k := by simp [cutL]

theorem cutL_succ (t : ByteArray) (n k : Nat) : cutL t n (k + 1) = cutL t n k ++ [partT t n k] := by
  unfold cutL
  rw [List.range_succ, List.map_append]; rfl

theorem cutL_getD (t : ByteArray) (n k i : Nat) (h : i < k) : (cutL t n k).getD i ByteArray.empty = partT t n i := by
  unfold cutL
  rw [List.getD_eq_getElem?_getD, List.getElem?_map, List.getElem?_range h]; rfl

/-- What is left of a text. -/
def restT (t : ByteArray) (n p : Nat) : ByteArray := t.extract (p * n) t.size

theorem restT_size (t : ByteArray) (n p : Nat) : (restT t n p).size = t.size - p * n := by
  unfold restT; rw [ByteArray.size_extract]; omega

theorem restT_zero (t : ByteArray) (n : Nat) : restT t n 0 = t := by
  unfold restT; rw [Nat.zero_mul, ByteArray.extract_zero_size]

theorem rest_first {t : ByteArray} {n p : Nat} (h : p * n + n ≤ t.size) : (restT t n p).extract 0 n = partT t n p := by
  unfold restT partT
  rw [ByteArray.extract_extract, if_neg (by omega), Nat.add_zero, Nat.min_eq_left h]

theorem rest_next {t : ByteArray} {n p : Nat} : (restT t n p).extract n (restT t n p).size = restT t n (p + 1) := by
  rw [restT_size]
  unfold restT
  rw [ByteArray.extract_extract, Nat.succ_mul]
  congr 1
  omega

theorem rest_last {t : ByteArray} {n p : Nat} (h1 : p = 0 ∨ p * n < t.size) (hn : 1 ≤ n) (h2 : t.size ≤ p * n + n) : partsN t n = p + 1 ∧ partT t n p = restT t n p := by
  constructor
  · unfold partsN
    split
    · rename_i h0
      rcases h1 with h1 | h1
      · omega
      · omega
    · rename_i h0
      have hlt : p * n < t.size := by
        rcases h1 with h1 | h1
        · subst h1; omega
        · exact h1
      rw [Nat.div_eq_of_lt_le]
      · rw [Nat.succ_mul]; omega
      · rw [Nat.succ_mul, Nat.succ_mul]; omega
  · unfold partT restT
    split
    · rfl
    · rw [show p * n + n = t.size by omega]

theorem rest_more {t : ByteArray} {n p : Nat} (hn : 1 ≤ n) (h2 : p * n + n < t.size) : p + 1 < partsN t n := by
  unfold partsN
  rw [if_neg (by omega), Nat.lt_div_iff_mul_lt (by omega), Nat.succ_mul]
  omega

/-- How many parts there are, by the size. -/
theorem partsN_le {t : ByteArray} {n c : Nat} (hn : 1 ≤ n) (hc : 1 ≤ c) : partsN t n ≤ c ↔ t.size ≤ c * n := by
  unfold partsN
  split
  · rename_i h; rw [h]; simp [hc]
  · rename_i h
    rw [← Nat.lt_succ_iff, Nat.div_lt_iff_lt_mul (by omega), Nat.succ_mul]
    omega

end Go.Proofs.Ytnjaofkieajnlaa
