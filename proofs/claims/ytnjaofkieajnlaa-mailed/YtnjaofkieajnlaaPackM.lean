/- Packets of a word's pieces, and an object's word: plain facts. -/
import Derived.Test.YtnjaofkieajnlaaSendR
import Derived.Test.YtnjaofkieajnlaaWordKn
import Derived.Test.YtnjaofkieajnlaaFitMaths
namespace Go.Proofs.Ytnjaofkieajnlaa

theorem packB_size (K M O S z i : Nat) (q : ByteArray) : (packB K M O S z i q).size = 9 + q.size := by
  unfold packB
  rw [ByteArray.size_append, packT_size]
  show 8 + q.size + 1 = _
  omega

theorem cutTo_getD (t : ByteArray) (z n j : Nat) (h : j < n) : (cutTo t z n).getD j ByteArray.empty = t.extract (j * z) (j * z + z) := by
  induction n with
  | zero => omega
  | succ n ih =>
    show (cutTo t z n ++ [t.extract (n * z) (n * z + z)]).getD j ByteArray.empty = _
    rw [List.getD_eq_getElem?_getD]
    by_cases e : j < n
    · rw [List.getElem?_append_left (by rw [cutTo_length]; exact e), ← List.getD_eq_getElem?_getD]; exact ih e
    · have : j = n := by omega
      subst this
      rw [List.getElem?_append_right (by rw [cutTo_length]; exact Nat.le_refl _), cutTo_length, Nat.sub_self]; rfl

theorem knownTo_getD (data : List ByteArray) (rows : Nat → List Nat) (z n j : Nat) (h : j < data.length) : (knownTo data rows z n).getD j ByteArray.empty = data.getD j ByteArray.empty := by
  induction n with
  | zero => rfl
  | succ n ih =>
    show (knownTo data rows z n ++ [_]).getD j ByteArray.empty = _
    rw [List.getD_eq_getElem?_getD, List.getElem?_append_left (by rw [knownTo_length]; omega), ← List.getD_eq_getElem?_getD]; exact ih

theorem packTo_getD (K M O S z : Nat) (P : List ByteArray) (n j : Nat) (h : j < n) : (packTo K M O S z P n).getD j ByteArray.empty = packB K M O S z j (P.getD j ByteArray.empty) := by
  induction n with
  | zero => omega
  | succ n ih =>
    show (packTo K M O S z P n ++ [packB K M O S z n (P.getD n ByteArray.empty)]).getD j ByteArray.empty = _
    rw [List.getD_eq_getElem?_getD]
    by_cases e : j < n
    · rw [List.getElem?_append_left (by rw [packTo_length]; exact e), ← List.getD_eq_getElem?_getD]; exact ih e
    · have : j = n := by omega
      subst this
      rw [List.getElem?_append_right (by rw [packTo_length]; exact Nat.le_refl _), packTo_length, Nat.sub_self]; rfl

theorem objWord_is {K M O S z : Nat} (o : ByteArray) (h : o.size + 2 ≤ K * z) : IsWord K M O S z (objWord K M O S z o) := by
  have hs := objT_size (K * z) o h
  have hc := cutTo_size (objT (K * z) o) z K (by rw [hs]; exact Nat.le_refl _)
  exact ⟨by unfold objWord; rw [knownTo_length, cutTo_length], knownTo_size hc M, fun i hi => known_fits K M O S _ z hc (cutTo_length _ _ _) i hi⟩

theorem objWord_data {K M O S z : Nat} (o : ByteArray) {j : Nat} (hj : j < K) : (objWord K M O S z o).getD j ByteArray.empty = (objT (K * z) o).extract (j * z) (j * z + z) := by
  unfold objWord
  rw [knownTo_getD _ _ _ _ _ (by rw [cutTo_length]; exact hj), cutTo_getD _ _ _ _ hj]

theorem packTo_sizes {K M O S z : Nat} {o : ByteArray} (h : o.size + 2 ≤ K * z) {i : Nat} (hi : i < K + M) : ((packTo K M O S z (objWord K M O S z o) (K + M)).getD i ByteArray.empty).size = 9 + z := by
  rw [packTo_getD _ _ _ _ _ _ _ _ hi, packB_size, (objWord_is o h).at_size hi]

end Go.Proofs.Ytnjaofkieajnlaa
