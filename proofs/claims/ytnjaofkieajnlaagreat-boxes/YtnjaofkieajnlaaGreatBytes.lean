/- Pieces as plain texts of bytes: the exclusive or, sums of rows; nothing of the program. -/
namespace Go.Proofs.YtnjaofkieajnlaaGreat

/-- Byte i of a text. -/
def byteAt (a : ByteArray) (i : Nat) : UInt8 := a.data.toList.getD i 0

theorem byteAt_get (a : ByteArray) (i : Nat) (h : i < a.size) : a[i] = byteAt a i := by
  have h' : i < a.data.toList.length := by simpa using h
  unfold byteAt
  rw [List.getD_eq_getElem?_getD, List.getElem?_eq_getElem h']
  rfl

theorem bytes_ext {a b : ByteArray} (hs : a.size = b.size) (h : ∀ i, i < a.size → byteAt a i = byteAt b i) : a = b := by
  have ha : a.data.toList.length = a.size := by simp
  have hb : b.data.toList.length = b.size := by simp
  have : a.data.toList = b.data.toList := by
    apply List.ext_getElem (by omega)
    intro i h1 h2
    have := h i (by omega)
    unfold byteAt at this
    rw [List.getD_eq_getElem?_getD, List.getD_eq_getElem?_getD, List.getElem?_eq_getElem h1, List.getElem?_eq_getElem h2] at this
    exact this
  cases a; cases b
  congr
  exact Array.toList_inj.1 this

/-- Noughts. -/
def zeroB (n : Nat) : ByteArray := ⟨(List.replicate n (0 : UInt8)).toArray⟩

theorem zeroB_size (n : Nat) : (zeroB n).size = n := by simp [zeroB, ByteArray.size]

theorem byteAt_zeroB (n i : Nat) : byteAt (zeroB n) i = 0 := by
  unfold byteAt zeroB
  rw [List.getD_eq_getElem?_getD]
  by_cases h : i < n
  · simp [h]
  · simp [show n ≤ i from by omega]

theorem zeroB_succ (n : Nat) : zeroB n ++ ⟨#[0]⟩ = zeroB (n + 1) := by
  apply bytes_ext
  · rw [zeroB_size]; show (zeroB n ++ _).size = _; rw [ByteArray.size_append, zeroB_size]; rfl
  · intro i hi
    rw [byteAt_zeroB]
    unfold byteAt
    rw [ByteArray.data_append, Array.toList_append]
    rw [List.getD_eq_getElem?_getD, List.getElem?_append]
    have hz := byteAt_zeroB n i
    unfold byteAt at hz
    rw [List.getD_eq_getElem?_getD] at hz
    split
    · exact hz
    · have hs : (zeroB n).data.toList.length = n := by simpa using zeroB_size n
      rw [hs]
      cases hq : i - n with
      | zero => rfl
      | succ q => rfl

/-- The sum of two pieces. -/
def xorB (a b : ByteArray) : ByteArray := ⟨(List.zipWith (fun x y => x ^^^ y) a.data.toList b.data.toList).toArray⟩

theorem xorB_size {a b : ByteArray} (h : a.size = b.size) : (xorB a b).size = a.size := by
  have ha : a.data.toList.length = a.size := by simp
  have hb : b.data.toList.length = b.size := by simp
  show (List.zipWith (fun x y => x ^^^ y) a.data.toList b.data.toList).toArray.size = a.size
  rw [List.size_toArray, List.length_zipWith]
  omega

theorem byteAt_xorB {a b : ByteArray} (h : a.size = b.size) (i : Nat) (hi : i < a.size) : byteAt (xorB a b) i = byteAt a i ^^^ byteAt b i := by
  have ha : i < a.data.toList.length := by simpa using hi
  have hb : i < b.data.toList.length := by simp; omega
  unfold byteAt xorB
  simp only [List.getD_eq_getElem?_getD]
  rw [List.getElem?_eq_getElem ha, List.getElem?_eq_getElem hb]
  simp only [List.getElem?_zipWith, List.getElem?_eq_getElem ha, List.getElem?_eq_getElem hb]
  rfl

/-- Piece j added, where there is one. -/
def addAt (P : List ByteArray) (t : ByteArray) (j : Nat) : ByteArray := if j < P.length then xorB t (P.getD j ByteArray.empty) else t

/-- The sum of a row's pieces. -/
def sumB (P : List ByteArray) (row : List Nat) (size : Nat) : ByteArray := row.foldl (addAt P) (zeroB size)

theorem addAt_size {P : List ByteArray} {t : ByteArray} {j size : Nat} (hp : ∀ x ∈ P, x.size = size) (ht : t.size = size) : (addAt P t j).size = size := by
  unfold addAt
  split
  · rename_i h
    have : (P.getD j ByteArray.empty).size = size := by
      rw [List.getD_eq_getElem?_getD, List.getElem?_eq_getElem h]
      exact hp _ (List.getElem_mem h)
    rw [xorB_size (by omega)]; exact ht
  · exact ht

theorem foldl_size {P : List ByteArray} {size : Nat} (hp : ∀ x ∈ P, x.size = size) : ∀ (row : List Nat) (t : ByteArray), t.size = size → (row.foldl (addAt P) t).size = size
  | [], _, h => h
  | _ :: row, _, h => foldl_size hp row _ (addAt_size hp h)

theorem sumB_size {P : List ByteArray} {size : Nat} (hp : ∀ x ∈ P, x.size = size) (row : List Nat) : (sumB P row size).size = size := foldl_size hp row _ (zeroB_size size)

theorem sumB_take_succ (P : List ByteArray) (row : List Nat) (size k : Nat) (h : k < row.length) : sumB P (row.take (k + 1)) size = addAt P (sumB P (row.take k) size) row[k] := by
  unfold sumB
  rw [List.take_succ_eq_append_getElem h, List.foldl_append]
  rfl

/-- The bytes of a piece as numbers. -/
def numsB (a : ByteArray) : List Int := a.data.toList.map (fun b : UInt8 => (b.toNat : Int))

theorem numsB_length (a : ByteArray) : (numsB a).length = a.size := by simp [numsB]

theorem numsB_getD (a : ByteArray) (i : Nat) : (numsB a).getD i 0 = ((byteAt a i).toNat : Int) := by
  unfold numsB byteAt
  simp only [List.getD_eq_getElem?_getD, List.getElem?_map]
  by_cases h : i < a.data.toList.length
  · rw [List.getElem?_eq_getElem h]; rfl
  · rw [List.getElem?_eq_none (by omega)]; rfl

theorem toNat_xor (a b : UInt8) : (a ^^^ b).toNat = a.toNat ^^^ b.toNat := by simp

end Go.Proofs.YtnjaofkieajnlaaGreat
