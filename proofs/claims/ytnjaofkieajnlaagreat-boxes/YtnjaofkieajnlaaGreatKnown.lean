/- The spare pieces as plain lists: each row's last piece is the sum of the others; nothing of the program. -/
import Derived.Test.YtnjaofkieajnlaaGreatMaths
import Derived.Test.YtnjaofkieajnlaaGreatBytes
namespace Go.Proofs.YtnjaofkieajnlaaGreat

/-- The pieces that are known behind i rows. -/
def knownTo (data : List ByteArray) (rows : Nat → List Nat) (size : Nat) : Nat → List ByteArray
  | 0 => data
  | i + 1 => knownTo data rows size i ++ [sumB (knownTo data rows size i) (rows i) size]

theorem knownTo_length (data : List ByteArray) (rows : Nat → List Nat) (size i : Nat) : (knownTo data rows size i).length = data.length + i := by
  induction i with
  | zero => rfl
  | succ i ih => simp only [knownTo, List.length_append, ih, List.length_cons, List.length_nil]; omega

theorem knownTo_size {data : List ByteArray} {rows : Nat → List Nat} {size : Nat} (hd : ∀ x ∈ data, x.size = size) (i : Nat) : ∀ x ∈ knownTo data rows size i, x.size = size := by
  induction i with
  | zero => exact hd
  | succ i ih =>
    intro x hx
    simp only [knownTo, List.mem_append, List.mem_singleton] at hx
    rcases hx with hx | rfl
    · exact ih x hx
    · exact sumB_size ih _

theorem knownTo_drop (data : List ByteArray) (rows : Nat → List Nat) (size i : Nat) :
    (knownTo data rows size (i + 1)).drop data.length = (knownTo data rows size i).drop data.length ++ [sumB (knownTo data rows size i) (rows i) size] := by
  simp only [knownTo]
  rw [List.drop_append_of_le_length (by rw [knownTo_length]; omega)]

/-- Row i but for its last piece. -/
def rowHead (K M O S i : Nat) : List Nat := (dealt M O S K).2 i ++ (if 0 < i then [K + i - 1] else [])

theorem rowOf_head (K M O S i : Nat) : rowOf K M O S i = rowHead K M O S i ++ [K + i] := by simp [rowOf, rowHead]

theorem rowHead_lt (K M O S i : Nat) : ∀ j ∈ rowHead K M O S i, j < K + i := by
  intro j hj
  simp only [rowHead, List.mem_append] at hj
  rcases hj with hj | hj
  · have := dealt_mem M O S K i j hj; omega
  · split at hj
    · simp at hj; omega
    · simp at hj

theorem rowOf_lt (K M O S i : Nat) : ∀ j ∈ rowOf K M O S i, j ≤ K + i := by
  intro j hj
  rw [rowOf_head] at hj
  simp only [List.mem_append, List.mem_singleton] at hj
  rcases hj with hj | rfl
  · have := rowHead_lt K M O S i j hj; omega
  · omega

/-- The last piece of a row is not known yet: it adds nothing. -/
theorem sumB_head {P : List ByteArray} {K M O S i size : Nat} (h : P.length = K + i) : sumB P (rowOf K M O S i) size = sumB P (rowHead K M O S i) size := by
  rw [rowOf_head]
  unfold sumB
  rw [List.foldl_append]
  simp only [List.foldl_cons, List.foldl_nil]
  unfold addAt
  rw [if_neg (by omega)]

/-- The spare pieces of the word that has these data. -/
def sparesOf (K M O S : Nat) (data : List ByteArray) (size : Nat) : List ByteArray := (knownTo data (rowOf K M O S) size M).drop data.length

theorem sparesOf_length (K M O S : Nat) (data : List ByteArray) (size : Nat) : (sparesOf K M O S data size).length = M := by
  unfold sparesOf
  rw [List.length_drop, knownTo_length]; omega

theorem knownTo_split (data : List ByteArray) (rows : Nat → List Nat) (size i : Nat) : knownTo data rows size i = data ++ (knownTo data rows size i).drop data.length := by
  induction i with
  | zero => simp [knownTo]
  | succ i ih => rw [knownTo_drop, ← List.append_assoc, ← ih]; rfl

end Go.Proofs.YtnjaofkieajnlaaGreat
