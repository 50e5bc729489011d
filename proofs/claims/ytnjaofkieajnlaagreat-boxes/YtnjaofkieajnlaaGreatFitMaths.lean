/- Words as plain lists: data and their spare pieces are a word; with one piece changed they are none. Nothing of the program. -/
import Derived.Test.YtnjaofkieajnlaaGreatKnown
namespace Go.Proofs.YtnjaofkieajnlaaGreat

theorem xorB_self (a : ByteArray) : xorB a a = zeroB a.size := by
  apply bytes_ext
  · rw [xorB_size rfl, zeroB_size]
  · intro i hi
    rw [xorB_size rfl] at hi
    rw [byteAt_xorB rfl i hi, byteAt_zeroB]
    exact UInt8.xor_self

/-- A sum looks at the pieces of its row alone. -/
theorem foldl_congr {P Q : List ByteArray} : ∀ (row : List Nat) (t : ByteArray), (∀ j ∈ row, ∀ t, addAt P t j = addAt Q t j) → row.foldl (addAt P) t = row.foldl (addAt Q) t
  | [], _, _ => rfl
  | j :: row, t, h => by
    simp only [List.foldl_cons]
    have h1 : addAt P t j = addAt Q t j := h j (by simp) t
    rw [h1]
    exact foldl_congr row _ (fun k hk => h k (by simp [hk]))

theorem knownTo_get (data : List ByteArray) (rows : Nat → List Nat) (size i n j : Nat) (h : i ≤ n) (hj : j < data.length + i) : (knownTo data rows size n).getD j ByteArray.empty = (knownTo data rows size i).getD j ByteArray.empty := by
  induction n with
  | zero => have : i = 0 := by omega
            subst this; rfl
  | succ n ih =>
    by_cases e : i = n + 1
    · subst e; rfl
    · rw [← ih (by omega)]
      simp only [knownTo]
      rw [List.getD_eq_getElem?_getD, List.getD_eq_getElem?_getD, List.getElem?_append_left (by rw [knownTo_length]; omega)]

theorem knownTo_last (data : List ByteArray) (rows : Nat → List Nat) (size i : Nat) : (knownTo data rows size (i + 1)).getD (data.length + i) ByteArray.empty = sumB (knownTo data rows size i) (rows i) size := by
  simp only [knownTo]
  rw [List.getD_eq_getElem?_getD, List.getElem?_append_right (by rw [knownTo_length]; omega), knownTo_length]
  simp

/-- Data and their spare pieces are a word. -/
theorem known_fits (K M O S : Nat) (data : List ByteArray) (size : Nat) (hd : ∀ x ∈ data, x.size = size) (hK : data.length = K) (i : Nat) (hi : i < M) :
    sumB (knownTo data (rowOf K M O S) size M) (rowOf K M O S i) size = zeroB size := by
  have hl : (knownTo data (rowOf K M O S) size M).length = K + M := by rw [knownTo_length, hK]
  have hli : (knownTo data (rowOf K M O S) size i).length = K + i := by rw [knownTo_length, hK]
  have h1 : sumB (knownTo data (rowOf K M O S) size M) (rowHead K M O S i) size = sumB (knownTo data (rowOf K M O S) size i) (rowHead K M O S i) size := by
    refine foldl_congr _ _ (fun j hj t => ?_)
    have hjl := rowHead_lt K M O S i j hj
    unfold addAt
    rw [if_pos (by omega), if_pos (by omega), knownTo_get data _ size i M j (by omega) (by omega)]
  have h2 : (knownTo data (rowOf K M O S) size M).getD (K + i) ByteArray.empty = sumB (knownTo data (rowOf K M O S) size i) (rowHead K M O S i) size := by
    rw [knownTo_get data _ size (i + 1) M (K + i) (by omega) (by omega), ← hK, knownTo_last, hK, sumB_head hli]
  have h3 : sumB (knownTo data (rowOf K M O S) size M) (rowOf K M O S i) size = addAt (knownTo data (rowOf K M O S) size M) (sumB (knownTo data (rowOf K M O S) size M) (rowHead K M O S i) size) (K + i) := by
    rw [rowOf_head]; unfold sumB; rw [List.foldl_append]; rfl
  rw [h3]
  unfold addAt
  rw [if_pos (by omega), h2, h1, xorB_self, sumB_size (knownTo_size hd i)]

/-- Byte k of a sum. -/
def byteSum (P : List ByteArray) (k : Nat) (x : UInt8) (row : List Nat) : UInt8 := row.foldl (fun x j => if j < P.length then x ^^^ byteAt (P.getD j ByteArray.empty) k else x) x

theorem byteAt_addAt {P : List ByteArray} {size : Nat} (hp : ∀ x ∈ P, x.size = size) (t : ByteArray) (ht : t.size = size) (j k : Nat) (hk : k < size) : byteAt (addAt P t j) k = if j < P.length then byteAt t k ^^^ byteAt (P.getD j ByteArray.empty) k else byteAt t k := by
  unfold addAt
  split
  · rename_i h
    have : (P.getD j ByteArray.empty).size = size := by
      rw [List.getD_eq_getElem?_getD, List.getElem?_eq_getElem h]
      exact hp _ (List.getElem_mem h)
    rw [byteAt_xorB (by omega) k (by omega)]
  · rfl

theorem byteAt_foldl {P : List ByteArray} {size : Nat} (hp : ∀ x ∈ P, x.size = size) (k : Nat) (hk : k < size) : ∀ (row : List Nat) (t : ByteArray), t.size = size → byteAt (row.foldl (addAt P) t) k = byteSum P k (byteAt t k) row
  | [], _, _ => rfl
  | j :: row, t, ht => by
    simp only [List.foldl_cons]
    rw [byteAt_foldl hp k hk row _ (addAt_size hp ht), byteAt_addAt hp t ht j k hk]
    rfl

theorem byteSum_shift (P : List ByteArray) (k : Nat) : ∀ (row : List Nat) (x y : UInt8), byteSum P k (x ^^^ y) row = byteSum P k x row ^^^ y
  | [], _, _ => rfl
  | j :: row, x, y => by
    show byteSum P k (if j < P.length then x ^^^ y ^^^ byteAt (P.getD j ByteArray.empty) k else x ^^^ y) row = byteSum P k (if j < P.length then x ^^^ byteAt (P.getD j ByteArray.empty) k else x) row ^^^ y
    split
    · rw [UInt8.xor_assoc, UInt8.xor_comm y, ← UInt8.xor_assoc, byteSum_shift P k row]
    · rw [byteSum_shift P k row]

/-- Where a row does not have piece j, another piece j changes nothing. -/
theorem byteSum_set_out (P : List ByteArray) (k j : Nat) (q : ByteArray) : ∀ (row : List Nat) (x : UInt8), j ∉ row → byteSum (P.set j q) k x row = byteSum P k x row
  | [], _, _ => rfl
  | i :: row, x, h => by
    simp only [List.mem_cons, not_or] at h
    show byteSum (P.set j q) k (if i < (P.set j q).length then x ^^^ byteAt ((P.set j q).getD i ByteArray.empty) k else x) row = byteSum P k (if i < P.length then x ^^^ byteAt (P.getD i ByteArray.empty) k else x) row
    rw [byteSum_set_out P k j q row _ h.2, List.length_set]
    congr 1
    split
    · congr 2
      rw [List.getD_eq_getElem?_getD, List.getD_eq_getElem?_getD, List.getElem?_set_ne (by omega)]
    · rfl

/-- Where it has it once, the sum changes as the piece does. -/
theorem byteSum_set_in (P : List ByteArray) (k j : Nat) (q : ByteArray) (hj : j < P.length) : ∀ (row : List Nat) (x : UInt8), row.Nodup → j ∈ row →
    byteSum (P.set j q) k x row = byteSum P k x row ^^^ (byteAt (P.getD j ByteArray.empty) k ^^^ byteAt q k)
  | [], _, _, h => by simp at h
  | i :: row, x, hn, h => by
    simp only [List.nodup_cons] at hn
    show byteSum (P.set j q) k (if i < (P.set j q).length then x ^^^ byteAt ((P.set j q).getD i ByteArray.empty) k else x) row = byteSum P k (if i < P.length then x ^^^ byteAt (P.getD i ByteArray.empty) k else x) row ^^^ _
    rw [List.length_set]
    by_cases e : i = j
    · subst e
      rw [if_pos hj, if_pos hj, byteSum_set_out P k i q row _ hn.1]
      have hq : (P.set i q).getD i ByteArray.empty = q := by rw [List.getD_eq_getElem?_getD, List.getElem?_set_self hj]; rfl
      rw [hq, ← byteSum_shift]
      congr 1
      rw [UInt8.xor_assoc, ← UInt8.xor_assoc (byteAt (P.getD i ByteArray.empty) k), UInt8.xor_self, UInt8.zero_xor]
    · have hm : j ∈ row := by simpa [show ¬ j = i from fun h => e h.symm] using h
      rw [byteSum_set_in P k j q hj row _ hn.2 hm]
      congr 2
      split
      · congr 2
        rw [List.getD_eq_getElem?_getD, List.getD_eq_getElem?_getD, List.getElem?_set_ne (by omega)]
      · rfl

/-- A word with one piece changed is none, in a row that has the piece once. -/
theorem changed_misfits {P : List ByteArray} {row : List Nat} {size j : Nat} {q : ByteArray} (hp : ∀ x ∈ P, x.size = size) (hj : j < P.length) (hn : row.Nodup) (hm : j ∈ row) (hq : q.size = size) (hne : q ≠ P.getD j ByteArray.empty)
    (hz : sumB P row size = zeroB size) : sumB (P.set j q) row size ≠ zeroB size := by
  intro hz2
  apply hne
  have hpj : (P.getD j ByteArray.empty).size = size := by
    rw [List.getD_eq_getElem?_getD, List.getElem?_eq_getElem hj]; exact hp _ (List.getElem_mem hj)
  have hp2 : ∀ x ∈ P.set j q, x.size = size := fun x hx => by
    rcases List.mem_or_eq_of_mem_set hx with h | h
    · exact hp x h
    · rw [h]; exact hq
  apply bytes_ext (by omega)
  intro k hk
  have hk' : k < size := by omega
  have e1 := byteAt_foldl hp k hk' row (zeroB size) (zeroB_size size)
  have e2 := byteAt_foldl hp2 k hk' row (zeroB size) (zeroB_size size)
  rw [byteSum_set_in P k j q hj row _ hn hm] at e2
  have z1 : byteAt (row.foldl (addAt P) (zeroB size)) k = 0 := by
    have : row.foldl (addAt P) (zeroB size) = zeroB size := hz
    rw [this, byteAt_zeroB]
  have z2 : byteAt (row.foldl (addAt (P.set j q)) (zeroB size)) k = 0 := by
    have : row.foldl (addAt (P.set j q)) (zeroB size) = zeroB size := hz2
    rw [this, byteAt_zeroB]
  rw [z1] at e1
  rw [z2, ← e1, UInt8.zero_xor] at e2
  have e3 : byteAt (P.getD j ByteArray.empty) k ^^^ byteAt q k = 0 := e2.symm
  have e4 : byteAt q k = byteAt (P.getD j ByteArray.empty) k ^^^ (byteAt (P.getD j ByteArray.empty) k ^^^ byteAt q k) := by
    rw [← UInt8.xor_assoc, UInt8.xor_self, UInt8.zero_xor]
  rw [e4, e3, UInt8.xor_zero]

/-- No piece is twice in a row. -/
theorem dealt_nodup (M O x j i : Nat) : ((dealt M O x j).2 i).Nodup := by
  induction j with
  | zero => simp [dealt]
  | succ j ih =>
    simp only [dealt]
    split
    · rw [List.nodup_append]
      refine ⟨ih, by simp, fun a ha b hb e => ?_⟩
      have := dealt_mem M O x j i a ha
      simp at hb
      omega
    · simpa using ih

theorem rowOf_nodup (K M O S i : Nat) : (rowOf K M O S i).Nodup := by
  rw [rowOf_head]
  rw [List.nodup_append]
  refine ⟨?_, by simp, fun a ha b hb e => ?_⟩
  · unfold rowHead
    rw [List.nodup_append]
    refine ⟨dealt_nodup M O S K i, ?_, fun a ha b hb e => ?_⟩
    · split <;> simp
    · have := dealt_mem M O S K i a ha
      split at hb
      · simp at hb; omega
      · simp at hb
  · have := rowHead_lt K M O S i a ha
    simp at hb
    omega

/-- Some row is chosen. -/
theorem drawn_some (M x O : Nat) (h1 : 1 ≤ O) (h2 : O ≤ M) : ∃ r, r < M ∧ (drawn M x O).2 r = true := by
  refine Classical.byContradiction fun hno => ?_
  have hall : ∀ r, r < M → (drawn M x O).2 r = false := fun r hr => by
    cases h : (drawn M x O).2 r
    · rfl
    · exact absurd ⟨r, hr, h⟩ hno
  have ho := drawn_open M x O h2
  have : opens (drawn M x O).2 M = List.range M := by
    unfold opens
    rw [List.filter_eq_self]
    intro r hr
    rw [hall r (List.mem_range.1 hr)]; rfl
  rw [this, List.length_range] at ho
  omega

theorem dealt_has (M O x j n : Nat) (hj : j < n) (h1 : 1 ≤ O) (h2 : O ≤ M) : ∃ r, r < M ∧ j ∈ (dealt M O x n).2 r := by
  induction n with
  | zero => omega
  | succ n ih =>
    by_cases e : j = n
    · subst e
      obtain ⟨r, hr, hc⟩ := drawn_some M (dealt M O x j).1 O h1 h2
      exact ⟨r, hr, by simp [dealt, hc]⟩
    · obtain ⟨r, hr, hm⟩ := ih (by omega)
      exact ⟨r, hr, by simp [dealt, hm]⟩

/-- Each piece is in a row. -/
theorem in_row (K M O S j : Nat) (hj : j < K + M) (h1 : 1 ≤ O) (h2 : O ≤ M) : ∃ r, r < M ∧ j ∈ rowOf K M O S r := by
  by_cases h : j < K
  · obtain ⟨r, hr, hm⟩ := dealt_has M O S j K h h1 h2
    exact ⟨r, hr, by simp [rowOf, hm]⟩
  · refine ⟨j - K, by omega, ?_⟩
    rw [rowOf_head]
    simp
    omega

end Go.Proofs.YtnjaofkieajnlaaGreat
