/- Texts of the proof, part 1. -/

/- The rows of a specification as plain lists: drawing, the choice of one piece's rows, the rows; nothing of the program. -/
namespace Go.Proofs.YtnjaofkieajnlaaGreat

/-- The next number that is drawn from. -/
def nxt (x : Nat) : Nat := (75 * x + 74) % 65537

theorem nxt_lt (x : Nat) : nxt x < 65537 := Nat.mod_lt _ (by omega)

/-- The rows below n that are not chosen, in order. -/
def opens (ch : Nat → Bool) (n : Nat) : List Nat := (List.range n).filter (fun i => !ch i)

theorem opens_zero (ch : Nat → Bool) : opens ch 0 = [] := rfl

theorem opens_succ (ch : Nat → Bool) (n : Nat) : opens ch (n + 1) = opens ch n ++ (if ch n then [] else [n]) := by
  unfold opens
  rw [List.range_succ, List.filter_append]
  cases h : ch n <;> simp [h]

theorem opens_len_succ (ch : Nat → Bool) (n : Nat) : (opens ch (n + 1)).length = (opens ch n).length + (if ch n then 0 else 1) := by
  rw [opens_succ]; cases ch n <;> simp

theorem opens_len_le (ch : Nat → Bool) (n : Nat) : (opens ch n).length ≤ n := by
  induction n with
  | zero => simp [opens_zero]
  | succ n ih => rw [opens_len_succ]; split <;> omega

theorem opens_len_mono (ch : Nat → Bool) (a b : Nat) (h : a ≤ b) : (opens ch a).length ≤ (opens ch b).length := by
  induction b with
  | zero => have : a = 0 := by omega
            subst this; exact Nat.le_refl _
  | succ b ih =>
    by_cases e : a = b + 1
    · subst e; exact Nat.le_refl _
    · have := ih (by omega)
      rw [opens_len_succ]; omega

theorem opens_at (ch : Nat → Bool) (k : Nat) (hk : ch k = false) (n : Nat) (h : k < n) : (opens ch n)[(opens ch k).length]? = some k := by
  induction n with
  | zero => omega
  | succ n ih =>
    rw [opens_succ]
    by_cases e : k = n
    · subst e; simp [hk]
    · have h1 := ih (by omega)
      rw [List.getElem?_append_left]
      · exact h1
      · exact (List.getElem?_eq_some_iff.1 h1).1

theorem opens_mem (ch : Nat → Bool) (n k : Nat) : k ∈ opens ch n ↔ k < n ∧ ch k = false := by
  simp [opens]

/-- The row at place d of those that are open. -/
def pickOpen (ch : Nat → Bool) (n d : Nat) : Nat := (opens ch n).getD d 0

theorem pickOpen_eq {ch : Nat → Bool} {n d k : Nat} (hk : ch k = false) (hl : (opens ch k).length = d) (hd : d < (opens ch n).length) : pickOpen ch n d = k ∧ k < n := by
  have hkn : k < n := by
    by_cases e : k < n
    · exact e
    · have := opens_len_mono ch n k (by omega); omega
  have := opens_at ch k hk n hkn
  rw [hl] at this
  exact ⟨by unfold pickOpen; rw [List.getD_eq_getElem?_getD, this]; rfl, hkn⟩

theorem pickOpen_spec {ch : Nat → Bool} {n d : Nat} (hd : d < (opens ch n).length) : pickOpen ch n d < n ∧ ch (pickOpen ch n d) = false := by
  have h : pickOpen ch n d ∈ opens ch n := by
    unfold pickOpen
    rw [List.getD_eq_getElem?_getD, List.getElem?_eq_getElem hd]
    exact List.getElem_mem hd
  exact (opens_mem ch n _).1 h

/-- One row more is chosen: one open row less. -/
theorem opens_set (ch : Nat → Bool) (n k : Nat) (hk : k < n) (hc : ch k = false) : (opens (fun i => ch i || i == k) n).length + 1 = (opens ch n).length := by
  induction n with
  | zero => omega
  | succ n ih =>
    rw [opens_len_succ, opens_len_succ]
    by_cases e : k = n
    · subst e
      have : ∀ m, m ≤ k → (opens (fun i => ch i || i == k) m).length = (opens ch m).length := by
        intro m
        induction m with
        | zero => intro _; rfl
        | succ m ihm =>
          intro hm
          rw [opens_len_succ, opens_len_succ, ihm (by omega)]
          have : (m == k) = false := by simp; omega
          simp [this]
      rw [this k (Nat.le_refl _)]
      simp [hc]
    · have h1 := ih (by omega)
      have : (n == k) = false := by simp; omega
      simp only [this, Bool.or_false]
      omega

/-- The number drawn from, and which rows are chosen, behind n draws for one piece; M rows. -/
def drawn (M : Nat) (x : Nat) : Nat → Nat × (Nat → Bool)
  | 0 => (x, fun _ => false)
  | n + 1 => (nxt (drawn M x n).1, fun i => (drawn M x n).2 i || i == pickOpen (drawn M x n).2 M (nxt (drawn M x n).1 % (M - n)))

theorem opens_none (n : Nat) : (opens (fun _ => false) n).length = n := by
  induction n with
  | zero => rfl
  | succ n ih => rw [opens_len_succ, ih]; simp

theorem drawn_open (M x n : Nat) (h : n ≤ M) : (opens (drawn M x n).2 M).length = M - n := by
  induction n with
  | zero => simp [drawn, opens_none]
  | succ n ih =>
    have h1 := ih (by omega)
    have hd : nxt (drawn M x n).1 % (M - n) < (opens (drawn M x n).2 M).length := by rw [h1]; exact Nat.mod_lt _ (by omega)
    obtain ⟨a, b⟩ := pickOpen_spec hd
    have h2 := opens_set (drawn M x n).2 M _ a b
    show (opens (fun i => (drawn M x n).2 i || i == pickOpen (drawn M x n).2 M (nxt (drawn M x n).1 % (M - n))) M).length = _
    omega

theorem drawn_lt (M x n : Nat) (hx : x < 65537) : (drawn M x n).1 < 65537 := by
  cases n with
  | zero => exact hx
  | succ n => exact nxt_lt _

/-- The number drawn from, and the pieces of data in each row, behind j pieces. -/
def dealt (M O x : Nat) : Nat → Nat × (Nat → List Nat)
  | 0 => (x, fun _ => [])
  | j + 1 => ((drawn M (dealt M O x j).1 O).1, fun i => (dealt M O x j).2 i ++ (if (drawn M (dealt M O x j).1 O).2 i then [j] else []))

theorem dealt_lt (M O x j : Nat) (hx : x < 65537) : (dealt M O x j).1 < 65537 := by
  induction j with
  | zero => exact hx
  | succ j ih => exact drawn_lt _ _ _ ih

theorem dealt_mem (M O x j i k : Nat) (h : k ∈ (dealt M O x j).2 i) : k < j := by
  induction j with
  | zero => simp [dealt] at h
  | succ j ih =>
    simp only [dealt, List.mem_append] at h
    rcases h with h | h
    · have := ih h; omega
    · split at h
      · simp at h; omega
      · simp at h

theorem dealt_len (M O x j i : Nat) : ((dealt M O x j).2 i).length ≤ j := by
  induction j with
  | zero => simp [dealt]
  | succ j ih =>
    simp only [dealt, List.length_append]
    split <;> simp <;> omega

/-- Piece j put into the rows that are chosen. -/
def withPiece (ch : Nat → Bool) (j : Nat) (L : Nat → List Nat) (i : Nat) : List Nat := L i ++ (if ch i then [j] else [])

theorem dealt_succ (M O x j : Nat) : (dealt M O x (j + 1)).2 = withPiece (drawn M (dealt M O x j).1 O).2 j (dealt M O x j).2 := rfl

theorem withPiece_none (j : Nat) (L : Nat → List Nat) (i : Nat) : withPiece (fun _ => false) j L i = L i := by simp [withPiece]

theorem withPiece_len (ch : Nat → Bool) (j : Nat) (L : Nat → List Nat) (i : Nat) : (withPiece ch j L i).length ≤ (L i).length + 1 := by
  unfold withPiece; cases ch i <;> simp

theorem mem_withPiece {ch : Nat → Bool} {j : Nat} {L : Nat → List Nat} {i : Nat} (h : ∀ k ∈ L i, k < j) : decide (j ∈ withPiece ch j L i) = ch i := by
  have : j ∉ L i := fun hj => Nat.lt_irrefl _ (h j hj)
  unfold withPiece
  cases ch i <;> simp [this]

theorem withPiece_set {ch : Nat → Bool} {j : Nat} {L : Nat → List Nat} {r : Nat} (h : ch r = false) (i : Nat) :
    (if i = r then withPiece ch j L r ++ [j] else withPiece ch j L i) = withPiece (fun k => ch k || k == r) j L i := by
  unfold withPiece
  by_cases e : i = r
  · subst e; simp [h]
  · have : (i == r) = false := by simp [e]
    simp [e, this]

/-- The choice as far as row n. -/
def upTo (ch : Nat → Bool) (n : Nat) (i : Nat) : Bool := decide (i < n) && ch i

theorem upTo_zero (ch : Nat → Bool) : upTo ch 0 = fun _ => false := by funext i; simp [upTo]

theorem upTo_same (ch : Nat → Bool) (n i : Nat) (h : i < n) : upTo ch n i = ch i := by simp [upTo, h]

theorem upTo_skip (ch : Nat → Bool) (n i : Nat) (h : ch n = false) : upTo ch (n + 1) i = upTo ch n i := by
  unfold upTo
  by_cases e : i = n
  · subst e; simp [h]
  · by_cases l : i < n
    · simp [l, show i < n + 1 from by omega]
    · simp [l, show ¬ i < n + 1 from by omega]

theorem upTo_take (ch : Nat → Bool) (j n : Nat) (L : Nat → List Nat) (h : ch n = true) (i : Nat) :
    (if i = n then withPiece (upTo ch n) j L n ++ [j] else withPiece (upTo ch n) j L i) = withPiece (upTo ch (n + 1)) j L i := by
  unfold withPiece upTo
  by_cases e : i = n
  · subst e; simp [h]
  · by_cases l : i < n
    · simp [e, l, show i < n + 1 from by omega]
    · simp [e, l, show ¬ i < n + 1 from by omega]

/-- The rows that have been closed by their spare pieces, i of them so far. -/
def closedAt (K : Nat) (L : Nat → List Nat) (n : Nat) (i : Nat) : List Nat :=
  if i < n then L i ++ ((if 0 < i then [K + i - 1] else []) ++ [K + i]) else L i

theorem closedAt_here (K : Nat) (L : Nat → List Nat) (n : Nat) : closedAt K L n n = L n := by simp [closedAt]

/-- Row n is half closed. -/
def halfAt (K : Nat) (L : Nat → List Nat) (n : Nat) (i : Nat) : List Nat := if i = n then L n ++ (if 0 < n then [K + n - 1] else []) else closedAt K L n i

theorem halfAt_none (K : Nat) (L : Nat → List Nat) (i : Nat) : halfAt K L 0 i = closedAt K L 0 i := by
  unfold halfAt closedAt
  by_cases e : i = 0 <;> simp [e]

theorem halfAt_some (K : Nat) (L : Nat → List Nat) (n : Nat) (h : 0 < n) (i : Nat) : (if i = n then closedAt K L n n ++ [K + n - 1] else closedAt K L n i) = halfAt K L n i := by
  unfold halfAt
  rw [closedAt_here]
  by_cases e : i = n <;> simp [e, h]

theorem halfAt_len (K : Nat) (L : Nat → List Nat) (n : Nat) : (halfAt K L n n).length ≤ (L n).length + 1 := by
  unfold halfAt
  rw [if_pos rfl]
  simp only [List.length_append]
  split <;> simp

theorem halfAt_close (K : Nat) (L : Nat → List Nat) (n i : Nat) : (if i = n then halfAt K L n n ++ [K + n] else halfAt K L n i) = closedAt K L (n + 1) i := by
  unfold halfAt
  by_cases e : i = n
  · subst e; simp [closedAt]
  · by_cases l : i < n
    · simp [e, closedAt, l, show i < n + 1 from by omega]
    · simp [e, closedAt, l, show ¬ i < n + 1 from by omega]

/-- Row i of a specification. -/
def rowOf (K M O S i : Nat) : List Nat := (dealt M O S K).2 i ++ ((if 0 < i then [K + i - 1] else []) ++ [K + i])

theorem closedAt_all (K M O S i : Nat) (h : i < M) : closedAt K (dealt M O S K).2 M i = rowOf K M O S i := by
  simp [closedAt, rowOf, h]

theorem rowOf_len (K M O S i : Nat) : (rowOf K M O S i).length ≤ K + 2 := by
  have := dealt_len M O S K i
  unfold rowOf
  simp only [List.length_append]
  split <;> simp <;> omega

end Go.Proofs.YtnjaofkieajnlaaGreat

/- Pieces as plain texts of bytes: the exclusive or, sums of rows; nothing of the program. -/
namespace Go.Proofs.YtnjaofkieajnlaaGreat

/-- Byte i of a text. -/
def byteAt (a : ByteArray) (i : Nat) : UInt8 := a.data.toList.getD i 0

theorem byteAt_get (a : ByteArray) (i : Nat) (h : i < a.size) : a[i] = byteAt a i := by
  have h' : i < a.data.toList.length := by simpa using h
  unfold byteAt
  rw [List.getD_eq_getElem?_getD, List.getElem?_eq_getElem h']
  rfl

theorem bytes_ext {a b : ByteArray} (hs : a.size = b.size) (h : ∀ i, i < a.size → byteAt a i = byteAt b i) : a = b := by
  have ha : a.data.toList.length = a.size := by simp
  have hb : b.data.toList.length = b.size := by simp
  have : a.data.toList = b.data.toList := by
    apply List.ext_getElem (by omega)
    intro i h1 h2
    have := h i (by omega)
    unfold byteAt at this
    rw [List.getD_eq_getElem?_getD, List.getD_eq_getElem?_getD, List.getElem?_eq_getElem h1, List.getElem?_eq_getElem h2] at this
    exact this
  cases a; cases b
  congr
  exact Array.toList_inj.1 this

/-- Noughts. -/
def zeroB (n : Nat) : ByteArray := ⟨(List.replicate n (0 : UInt8)).toArray⟩

theorem zeroB_size (n : Nat) : (zeroB n).size = n := by simp [zeroB, ByteArray.size]

theorem byteAt_zeroB (n i : Nat) : byteAt (zeroB n) i = 0 := by
  unfold byteAt zeroB
  rw [List.getD_eq_getElem?_getD]
  by_cases h : i < n
  · simp [h]
  · simp [show n ≤ i from by omega]

theorem zeroB_succ (n : Nat) : zeroB n ++ ⟨#[0]⟩ = zeroB (n + 1) := by
  apply bytes_ext
  · rw [zeroB_size]; show (zeroB n ++ _).size = _; rw [ByteArray.size_append, zeroB_size]; rfl
  · intro i hi
    rw [byteAt_zeroB]
    unfold byteAt
    rw [ByteArray.data_append, Array.toList_append]
    rw [List.getD_eq_getElem?_getD, List.getElem?_append]
    have hz := byteAt_zeroB n i
    unfold byteAt at hz
    rw [List.getD_eq_getElem?_getD] at hz
    split
    · exact hz
    · have hs : (zeroB n).data.toList.length = n := by simpa using zeroB_size n
      rw [hs]
      cases hq : i - n with
      | zero => rfl
      | succ q => rfl

/-- The sum of two pieces. -/
def xorB (a b : ByteArray) : ByteArray := ⟨(List.zipWith (fun x y => x ^^^ y) a.data.toList b.data.toList).toArray⟩

theorem xorB_size {a b : ByteArray} (h : a.size = b.size) : (xorB a b).size = a.size := by
  have ha : a.data.toList.length = a.size := by simp
  have hb : b.data.toList.length = b.size := by simp
  show (List.zipWith (fun x y => x ^^^ y) a.data.toList b.data.toList).toArray.size = a.size
  rw [List.size_toArray, List.length_zipWith]
  omega

theorem byteAt_xorB {a b : ByteArray} (h : a.size = b.size) (i : Nat) (hi : i < a.size) : byteAt (xorB a b) i = byteAt a i ^^^ byteAt b i := by
  have ha : i < a.data.toList.length := by simpa using hi
  have hb : i < b.data.toList.length := by simp; omega
  unfold byteAt xorB
  simp only [List.getD_eq_getElem?_getD]
  rw [List.getElem?_eq_getElem ha, List.getElem?_eq_getElem hb]
  simp only [List.getElem?_zipWith, List.getElem?_eq_getElem ha, List.getElem?_eq_getElem hb]
  rfl

/-- Piece j added, where there is one. -/
def addAt (P : List ByteArray) (t : ByteArray) (j : Nat) : ByteArray := if j < P.length then xorB t (P.getD j ByteArray.empty) else t

/-- The sum of a row's pieces. -/
def sumB (P : List ByteArray) (row : List Nat) (size : Nat) : ByteArray := row.foldl (addAt P) (zeroB size)

theorem addAt_size {P : List ByteArray} {t : ByteArray} {j size : Nat} (hp : ∀ x ∈ P, x.size = size) (ht : t.size = size) : (addAt P t j).size = size := by
  unfold addAt
  split
  · rename_i h
    have : (P.getD j ByteArray.empty).size = size := by
      rw [List.getD_eq_getElem?_getD, List.getElem?_eq_getElem h]
      exact hp _ (List.getElem_mem h)
    rw [xorB_size (by omega)]; exact ht
  · exact ht

theorem foldl_size {P : List ByteArray} {size : Nat} (hp : ∀ x ∈ P, x.size = size) : ∀ (row : List Nat) (t : ByteArray), t.size = size → (row.foldl (addAt P) t).size = size
  | [], _, h => h
  | _ :: row, _, h => foldl_size hp row _ (addAt_size hp h)

theorem sumB_size {P : List ByteArray} {size : Nat} (hp : ∀ x ∈ P, x.size = size) (row : List Nat) : (sumB P row size).size = size := foldl_size hp row _ (zeroB_size size)

theorem sumB_take_succ (P : List ByteArray) (row : List Nat) (size k : Nat) (h : k < row.length) : sumB P (row.take (k + 1)) size = addAt P (sumB P (row.take k) size) row[k] := by
  unfold sumB
  rw [List.take_succ_eq_append_getElem h, List.foldl_append]
  rfl

/-- The bytes of a piece as numbers. -/
def numsB (a : ByteArray) : List Int := a.data.toList.map (fun b : UInt8 => (b.toNat : Int))

theorem numsB_length (a : ByteArray) : (numsB a).length = a.size := by simp [numsB]

theorem numsB_getD (a : ByteArray) (i : Nat) : (numsB a).getD i 0 = ((byteAt a i).toNat : Int) := by
  unfold numsB byteAt
  simp only [List.getD_eq_getElem?_getD, List.getElem?_map]
  by_cases h : i < a.data.toList.length
  · rw [List.getElem?_eq_getElem h]; rfl
  · rw [List.getElem?_eq_none (by omega)]; rfl

theorem toNat_xor (a b : UInt8) : (a ^^^ b).toNat = a.toNat ^^^ b.toNat := by simp

end Go.Proofs.YtnjaofkieajnlaaGreat

/- The spare pieces as plain lists: each row's last piece is the sum of the others; nothing of the program. -/
namespace Go.Proofs.YtnjaofkieajnlaaGreat

/-- The pieces that are known behind i rows. -/
def knownTo (data : List ByteArray) (rows : Nat → List Nat) (size : Nat) : Nat → List ByteArray
  | 0 => data
  | i + 1 => knownTo data rows size i ++ [sumB (knownTo data rows size i) (rows i) size]

theorem knownTo_length (data : List ByteArray) (rows : Nat → List Nat) (size i : Nat) : (knownTo data rows size i).length = data.length + i := by
  induction i with
  | zero => rfl
  | succ i ih => simp only [knownTo, List.length_append, ih, List.length_cons, List.length_nil]; omega

theorem knownTo_size {data : List ByteArray} {rows : Nat → List Nat} {size : Nat} (hd : ∀ x ∈ data, x.size = size) (i : Nat) : ∀ x ∈ knownTo data rows size i, x.size = size := by
  induction i with
  | zero => exact hd
  | succ i ih =>
    intro x hx
    simp only [knownTo, List.mem_append, List.mem_singleton] at hx
    rcases hx with hx | rfl
    · exact ih x hx
    · exact sumB_size ih _

theorem knownTo_drop (data : List ByteArray) (rows : Nat → List Nat) (size i : Nat) :
    (knownTo data rows size (i + 1)).drop data.length = (knownTo data rows size i).drop data.length ++ [sumB (knownTo data rows size i) (rows i) size] := by
  simp only [knownTo]
  rw [List.drop_append_of_le_length (by rw [knownTo_length]; omega)]

/-- Row i but for its last piece. -/
def rowHead (K M O S i : Nat) : List Nat := (dealt M O S K).2 i ++ (if 0 < i then [K + i - 1] else [])

theorem rowOf_head (K M O S i : Nat) : rowOf K M O S i = rowHead K M O S i ++ [K + i] := by simp [rowOf, rowHead]

theorem rowHead_lt (K M O S i : Nat) : ∀ j ∈ rowHead K M O S i, j < K + i := by
  intro j hj
  simp only [rowHead, List.mem_append] at hj
  rcases hj with hj | hj
  · have := dealt_mem M O S K i j hj; omega
  · split at hj
    · simp at hj; omega
    · simp at hj

theorem rowOf_lt (K M O S i : Nat) : ∀ j ∈ rowOf K M O S i, j ≤ K + i := by
  intro j hj
  rw [rowOf_head] at hj
  simp only [List.mem_append, List.mem_singleton] at hj
  rcases hj with hj | rfl
  · have := rowHead_lt K M O S i j hj; omega
  · omega

/-- The last piece of a row is not known yet: it adds nothing. -/
theorem sumB_head {P : List ByteArray} {K M O S i size : Nat} (h : P.length = K + i) : sumB P (rowOf K M O S i) size = sumB P (rowHead K M O S i) size := by
  rw [rowOf_head]
  unfold sumB
  rw [List.foldl_append]
  simp only [List.foldl_cons, List.foldl_nil]
  unfold addAt
  rw [if_neg (by omega)]

/-- The spare pieces of the word that has these data. -/
def sparesOf (K M O S : Nat) (data : List ByteArray) (size : Nat) : List ByteArray := (knownTo data (rowOf K M O S) size M).drop data.length

theorem sparesOf_length (K M O S : Nat) (data : List ByteArray) (size : Nat) : (sparesOf K M O S data size).length = M := by
  unfold sparesOf
  rw [List.length_drop, knownTo_length]; omega

theorem knownTo_split (data : List ByteArray) (rows : Nat → List Nat) (size i : Nat) : knownTo data rows size i = data ++ (knownTo data rows size i).drop data.length := by
  induction i with
  | zero => simp [knownTo]
  | succ i ih => rw [knownTo_drop, ← List.append_assoc, ← ih]; rfl

end Go.Proofs.YtnjaofkieajnlaaGreat

/- Words as plain lists: data and their spare pieces are a word; with one piece changed they are none. Nothing of the program. -/
namespace Go.Proofs.YtnjaofkieajnlaaGreat

theorem xorB_self (a : ByteArray) : xorB a a = zeroB a.size := by
  apply bytes_ext
  · rw [xorB_size rfl, zeroB_size]
  · intro i hi
    rw [xorB_size rfl] at hi
    rw [byteAt_xorB rfl i hi, byteAt_zeroB]
    exact UInt8.xor_self

/-- A sum looks at the pieces of its row alone. -/
theorem foldl_congr {P Q : List ByteArray} : ∀ (row : List Nat) (t : ByteArray), (∀ j ∈ row, ∀ t, addAt P t j = addAt Q t j) → row.foldl (addAt P) t = row.foldl (addAt Q) t
  | [], _, _ => rfl
  | j :: row, t, h => by
    simp only [List.foldl_cons]
    have h1 : addAt P t j = addAt Q t j := h j (by simp) t
    rw [h1]
    exact foldl_congr row _ (fun k hk => h k (by simp [hk]))

theorem knownTo_get (data : List ByteArray) (rows : Nat → List Nat) (size i n j : Nat) (h : i ≤ n) (hj : j < data.length + i) : (knownTo data rows size n).getD j ByteArray.empty = (knownTo data rows size i).getD j ByteArray.empty := by
  induction n with
  | zero => have : i = 0 := by omega
            subst this; rfl
  | succ n ih =>
    by_cases e : i = n + 1
    · subst e; rfl
    · rw [← ih (by omega)]
      simp only [knownTo]
      rw [List.getD_eq_getElem?_getD, List.getD_eq_getElem?_getD, List.getElem?_append_left (by rw [knownTo_length]; omega)]

theorem knownTo_last (data : List ByteArray) (rows : Nat → List Nat) (size i : Nat) : (knownTo data rows size (i + 1)).getD (data.length + i) ByteArray.empty = sumB (knownTo data rows size i) (rows i) size := by
  simp only [knownTo]
  rw [List.getD_eq_getElem?_getD, List.getElem?_append_right (by rw [knownTo_length]; omega), knownTo_length]
  simp

/-- Data and their spare pieces are a word. -/
theorem known_fits (K M O S : Nat) (data : List ByteArray) (size : Nat) (hd : ∀ x ∈ data, x.size = size) (hK : data.length = K) (i : Nat) (hi : i < M) :
    sumB (knownTo data (rowOf K M O S) size M) (rowOf K M O S i) size = zeroB size := by
  have hl : (knownTo data (rowOf K M O S) size M).length = K + M := by rw [knownTo_length, hK]
  have hli : (knownTo data (rowOf K M O S) size i).length = K + i := by rw [knownTo_length, hK]
  have h1 : sumB (knownTo data (rowOf K M O S) size M) (rowHead K M O S i) size = sumB (knownTo data (rowOf K M O S) size i) (rowHead K M O S i) size := by
    refine foldl_congr _ _ (fun j hj t => ?_)
    have hjl := rowHead_lt K M O S i j hj
    unfold addAt
    rw [if_pos (by omega), if_pos (by omega), knownTo_get data _ size i M j (by omega) (by omega)]
  have h2 : (knownTo data (rowOf K M O S) size M).getD (K + i) ByteArray.empty = sumB (knownTo data (rowOf K M O S) size i) (rowHead K M O S i) size := by
    rw [knownTo_get data _ size (i + 1) M (K + i) (by omega) (by omega), ← hK, knownTo_last, hK, sumB_head hli]
  have h3 : sumB (knownTo data (rowOf K M O S) size M) (rowOf K M O S i) size = addAt (knownTo data (rowOf K M O S) size M) (sumB (knownTo data (rowOf K M O S) size M) (rowHead K M O S i) size) (K + i) := by
    rw [rowOf_head]; unfold sumB; rw [List.foldl_append]; rfl
  rw [h3]
  unfold addAt
  rw [if_pos (by omega), h2, h1, xorB_self, sumB_size (knownTo_size hd i)]

/-- Byte k of a sum. -/
def byteSum (P : List ByteArray) (k : Nat) (x : UInt8) (row : List Nat) : UInt8 := row.foldl (fun x j => if j < P.length then x ^^^ byteAt (P.getD j ByteArray.empty) k else x) x

theorem byteAt_addAt {P : List ByteArray} {size : Nat} (hp : ∀ x ∈ P, x.size = size) (t : ByteArray) (ht : t.size = size) (j k : Nat) (hk : k < size) : byteAt (addAt P t j) k = if j < P.length then byteAt t k ^^^ byteAt (P.getD j ByteArray.empty) k else byteAt t k := by
  unfold addAt
  split
  · rename_i h
    have : (P.getD j ByteArray.empty).size = size := by
      rw [List.getD_eq_getElem?_getD, List.getElem?_eq_getElem h]
      exact hp _ (List.getElem_mem h)
    rw [byteAt_xorB (by omega) k (by omega)]
  · rfl

theorem byteAt_foldl {P : List ByteArray} {size : Nat} (hp : ∀ x ∈ P, x.size = size) (k : Nat) (hk : k < size) : ∀ (row : List Nat) (t : ByteArray), t.size = size → byteAt (row.foldl (addAt P) t) k = byteSum P k (byteAt t k) row
  | [], _, _ => rfl
  | j :: row, t, ht => by
    simp only [List.foldl_cons]
    rw [byteAt_foldl hp k hk row _ (addAt_size hp ht), byteAt_addAt hp t ht j k hk]
    rfl

theorem byteSum_shift (P : List ByteArray) (k : Nat) : ∀ (row : List Nat) (x y : UInt8), byteSum P k (x ^^^ y) row = byteSum P k x row ^^^ y
  | [], _, _ => rfl
  | j :: row, x, y => by
    show byteSum P k (if j < P.length then x ^^^ y ^^^ byteAt (P.getD j ByteArray.empty) k else x ^^^ y) row = byteSum P k (if j < P.length then x ^^^ byteAt (P.getD j ByteArray.empty) k else x) row ^^^ y
    split
    · rw [UInt8.xor_assoc, UInt8.xor_comm y, ← UInt8.xor_assoc, byteSum_shift P k row]
    · rw [byteSum_shift P k row]

/-- Where a row does not have piece j, another piece j changes nothing. -/
theorem byteSum_set_out (P : List ByteArray) (k j : Nat) (q : ByteArray) : ∀ (row : List Nat) (x : UInt8), j ∉ row → byteSum (P.set j q) k x row = byteSum P k x row
  | [], _, _ => rfl
  | i :: row, x, h => by
    simp only [List.mem_cons, not_or] at h
    show byteSum (P.set j q) k (if i < (P.set j q).length then x ^^^ byteAt ((P.set j q).getD i ByteArray.empty) k else x) row = byteSum P k (if i < P.length then x ^^^ byteAt (P.getD i ByteArray.empty) k else x) row
    rw [byteSum_set_out P k j q row _ h.2, List.length_set]
    congr 1
    split
    · congr 2
      rw [List.getD_eq_getElem?_getD, List.getD_eq_getElem?_getD, List.getElem?_set_ne (by omega)]
    · rfl

/-- Where it has it once, the sum changes as the piece does. -/
theorem byteSum_set_in (P : List ByteArray) (k j : Nat) (q : ByteArray) (hj : j < P.length) : ∀ (row : List Nat) (x : UInt8), row.Nodup → j ∈ row →
    byteSum (P.set j q) k x row = byteSum P k x row ^^^ (byteAt (P.getD j ByteArray.empty) k ^^^ byteAt q k)
  | [], _, _, h => by simp at h
  | i :: row, x, hn, h => by
    simp only [List.nodup_cons] at hn
    show byteSum (P.set j q) k (if i < (P.set j q).length then x ^^^ byteAt ((P.set j q).getD i ByteArray.empty) k else x) row = byteSum P k (if i < P.length then x ^^^ byteAt (P.getD i ByteArray.empty) k else x) row ^^^ _
    rw [List.length_set]
    by_cases e : i = j
    · subst e
      rw [if_pos hj, if_pos hj, byteSum_set_out P k i q row _ hn.1]
      have hq : (P.set i q).getD i ByteArray.empty = q := by rw [List.getD_eq_getElem?_getD, List.getElem?_set_self hj]; rfl
      rw [hq, ← byteSum_shift]
      congr 1
      rw [UInt8.xor_assoc, ← UInt8.xor_assoc (byteAt (P.getD i ByteArray.empty) k), UInt8.xor_self, UInt8.zero_xor]
    · have hm : j ∈ row := by simpa [show ¬ j = i from fun h => e h.symm] using h
      rw [byteSum_set_in P k j q hj row _ hn.2 hm]
      congr 2
      split
      · congr 2
        rw [List.getD_eq_getElem?_getD, List.getD_eq_getElem?_getD, List.getElem?_set_ne (by omega)]
      · rfl

/-- A word with one piece changed is none, in a row that has the piece once. -/
theorem changed_misfits {P : List ByteArray} {row : List Nat} {size j : Nat} {q : ByteArray} (hp : ∀ x ∈ P, x.size = size) (hj : j < P.length) (hn : row.Nodup) (hm : j ∈ row) (hq : q.size = size) (hne : q ≠ P.getD j ByteArray.empty)
    (hz : sumB P row size = zeroB size) : sumB (P.set j q) row size ≠ zeroB size := by
  intro hz2
  apply hne
  have hpj : (P.getD j ByteArray.empty).size = size := by
    rw [List.getD_eq_getElem?_getD, List.getElem?_eq_getElem hj]; exact hp _ (List.getElem_mem hj)
  have hp2 : ∀ x ∈ P.set j q, x.size = size := fun x hx => by
    rcases List.mem_or_eq_of_mem_set hx with h | h
    · exact hp x h
    · rw [h]; exact hq
  apply bytes_ext (by omega)
  intro k hk
  have hk' : k < size := by omega
  have e1 := byteAt_foldl hp k hk' row (zeroB size) (zeroB_size size)
  have e2 := byteAt_foldl hp2 k hk' row (zeroB size) (zeroB_size size)
  rw [byteSum_set_in P k j q hj row _ hn hm] at e2
  have z1 : byteAt (row.foldl (addAt P) (zeroB size)) k = 0 := by
    have : row.foldl (addAt P) (zeroB size) = zeroB size := hz
    rw [this, byteAt_zeroB]
  have z2 : byteAt (row.foldl (addAt (P.set j q)) (zeroB size)) k = 0 := by
    have : row.foldl (addAt (P.set j q)) (zeroB size) = zeroB size := hz2
    rw [this, byteAt_zeroB]
  rw [z1] at e1
  rw [z2, ← e1, UInt8.zero_xor] at e2
  have e3 : byteAt (P.getD j ByteArray.empty) k ^^^ byteAt q k = 0 := e2.symm
  have e4 : byteAt q k = byteAt (P.getD j ByteArray.empty) k ^^^ (byteAt (P.getD j ByteArray.empty) k ^^^ byteAt q k) := by
    rw [← UInt8.xor_assoc, UInt8.xor_self, UInt8.zero_xor]
  rw [e4, e3, UInt8.xor_zero]

/-- No piece is twice in a row. -/
theorem dealt_nodup (M O x j i : Nat) : ((dealt M O x j).2 i).Nodup := by
  induction j with
  | zero => simp [dealt]
  | succ j ih =>
    simp only [dealt]
    split
    · rw [List.nodup_append]
      refine ⟨ih, by simp, fun a ha b hb e => ?_⟩
      have := dealt_mem M O x j i a ha
      simp at hb
      omega
    · simpa using ih

theorem rowOf_nodup (K M O S i : Nat) : (rowOf K M O S i).Nodup := by
  rw [rowOf_head]
  rw [List.nodup_append]
  refine ⟨?_, by simp, fun a ha b hb e => ?_⟩
  · unfold rowHead
    rw [List.nodup_append]
    refine ⟨dealt_nodup M O S K i, ?_, fun a ha b hb e => ?_⟩
    · split <;> simp
    · have := dealt_mem M O S K i a ha
      split at hb
      · simp at hb; omega
      · simp at hb
  · have := rowHead_lt K M O S i a ha
    simp at hb
    omega

/-- Some row is chosen. -/
theorem drawn_some (M x O : Nat) (h1 : 1 ≤ O) (h2 : O ≤ M) : ∃ r, r < M ∧ (drawn M x O).2 r = true := by
  refine Classical.byContradiction fun hno => ?_
  have hall : ∀ r, r < M → (drawn M x O).2 r = false := fun r hr => by
    cases h : (drawn M x O).2 r
    · rfl
    · exact absurd ⟨r, hr, h⟩ hno
  have ho := drawn_open M x O h2
  have : opens (drawn M x O).2 M = List.range M := by
    unfold opens
    rw [List.filter_eq_self]
    intro r hr
    rw [hall r (List.mem_range.1 hr)]; rfl
  rw [this, List.length_range] at ho
  omega

theorem dealt_has (M O x j n : Nat) (hj : j < n) (h1 : 1 ≤ O) (h2 : O ≤ M) : ∃ r, r < M ∧ j ∈ (dealt M O x n).2 r := by
  induction n with
  | zero => omega
  | succ n ih =>
    by_cases e : j = n
    · subst e
      obtain ⟨r, hr, hc⟩ := drawn_some M (dealt M O x j).1 O h1 h2
      exact ⟨r, hr, by simp [dealt, hc]⟩
    · obtain ⟨r, hr, hm⟩ := ih (by omega)
      exact ⟨r, hr, by simp [dealt, hm]⟩

/-- Each piece is in a row. -/
theorem in_row (K M O S j : Nat) (hj : j < K + M) (h1 : 1 ≤ O) (h2 : O ≤ M) : ∃ r, r < M ∧ j ∈ rowOf K M O S r := by
  by_cases h : j < K
  · obtain ⟨r, hr, hm⟩ := dealt_has M O S j K h h1 h2
    exact ⟨r, hr, by simp [rowOf, hm]⟩
  · refine ⟨j - K, by omega, ?_⟩
    rw [rowOf_head]
    simp
    omega

end Go.Proofs.YtnjaofkieajnlaaGreat

/- Which sums of pieces follow from facts: sums of facts over bits, independence, and that no more independent ones than facts can be; nothing of the program. -/
namespace Go.Proofs.YtnjaofkieajnlaaGreat

/-- Bits that are sums of some of a list. -/
def sp : List Nat → Nat → Prop
  | [], b => b = 0
  | f :: l, b => sp l b ∨ sp l (b ^^^ f)

theorem xor_swap (a b c : Nat) : a ^^^ b ^^^ c = a ^^^ c ^^^ b := by rw [Nat.xor_assoc, Nat.xor_comm b c, ← Nat.xor_assoc]
theorem xor_cancel (a b : Nat) : a ^^^ b ^^^ b = a := by rw [Nat.xor_assoc, Nat.xor_self, Nat.xor_zero]

theorem sp_zero (l : List Nat) : sp l 0 := by
  induction l with
  | nil => rfl
  | cons f l ih => exact Or.inl ih

theorem sp_xor {l : List Nat} {a b : Nat} (ha : sp l a) (hb : sp l b) : sp l (a ^^^ b) := by
  induction l generalizing a b with
  | nil =>
    have h1 : a = 0 := ha
    have h2 : b = 0 := hb
    subst h1 h2; rfl
  | cons f l ih =>
    rcases ha with ha | ha <;> rcases hb with hb | hb
    · exact Or.inl (ih ha hb)
    · refine Or.inr ?_
      have := ih ha hb
      rwa [← Nat.xor_assoc] at this
    · refine Or.inr ?_
      have := ih ha hb
      rwa [xor_swap] at this
    · refine Or.inl ?_
      have := ih ha hb
      rwa [Nat.xor_assoc, ← Nat.xor_assoc f b f, Nat.xor_comm f b, xor_cancel] at this

theorem sp_mem {l : List Nat} {f : Nat} (h : f ∈ l) : sp l f := by
  induction l with
  | nil => simp at h
  | cons g l ih =>
    rcases List.mem_cons.1 h with h | h
    · subst h; refine Or.inr ?_; rw [Nat.xor_self]; exact sp_zero l
    · exact Or.inl (ih h)

theorem sp_of {l l' : List Nat} (h : ∀ f ∈ l, sp l' f) {b : Nat} (hb : sp l b) : sp l' b := by
  induction l generalizing b with
  | nil => have : b = 0 := hb
           subst this; exact sp_zero l'
  | cons f l ih =>
    have hl : ∀ g ∈ l, sp l' g := fun g hg => h g (List.mem_cons_of_mem _ hg)
    rcases hb with hb | hb
    · exact ih hl hb
    · have h1 := sp_xor (ih hl hb) (h f (by simp))
      rwa [xor_cancel] at h1

theorem sp_cons {l : List Nat} {f b : Nat} (h : sp l b) : sp (f :: l) b := Or.inl h

theorem sp_sub {l l' : List Nat} (h : ∀ f ∈ l, f ∈ l') {b : Nat} (hb : sp l b) : sp l' b := sp_of (fun f hf => sp_mem (h f hf)) hb

/-- None of a list is a sum of those behind it. -/
def Indep : List Nat → Prop
  | [] => True
  | f :: l => ¬ sp l f ∧ Indep l

/-- One of a list taken out: what is left spans, with it, the same. -/
theorem sp_add_left {l : List Nat} {f : Nat} {b : Nat} (h : sp (f :: l) b) (hn : ¬ sp l b) : sp l (b ^^^ f) := h.resolve_left hn

/-- Each that needs f is added to f. -/
def clear1 (P : Nat → Bool) (f : Nat) (l : List Nat) : List Nat := l.map fun g => if P g then g ^^^ f else g

theorem sp_clear1 (P : Nat → Bool) (f : Nat) (l : List Nat) {b : Nat} (hb : sp (clear1 P f l) b) : sp l b ∨ sp l (b ^^^ f) := by
  induction l generalizing b with
  | nil => exact Or.inl hb
  | cons g l ih =>
    have hb' : sp (clear1 P f l) b ∨ sp (clear1 P f l) (b ^^^ (if P g then g ^^^ f else g)) := hb
    rcases hb' with hb' | hb'
    · rcases ih hb' with h | h
      · exact Or.inl (Or.inl h)
      · exact Or.inr (Or.inl h)
    · cases hP : P g
      · rw [hP] at hb'
        simp only [Bool.false_eq_true, if_false] at hb'
        rcases ih hb' with h | h
        · exact Or.inl (Or.inr h)
        · refine Or.inr (Or.inr ?_)
          rwa [xor_swap] at h
      · rw [hP] at hb'
        simp only [if_true] at hb'
        rcases ih hb' with h | h
        · refine Or.inr (Or.inr ?_)
          rwa [← Nat.xor_assoc, xor_swap] at h
        · refine Or.inl (Or.inr ?_)
          rwa [← Nat.xor_assoc, xor_cancel] at h

theorem indep_clear1 (P : Nat → Bool) (f : Nat) (l : List Nat) (h : Indep (f :: l)) : Indep (clear1 P f l) := by
  induction l with
  | nil => exact True.intro
  | cons g l ih =>
    obtain ⟨hf, hg, hl⟩ := h
    have hfl : ¬ sp l f := fun hs => hf (Or.inl hs)
    refine ⟨fun hs0 => ?_, ih ⟨hfl, hl⟩⟩
    have hs : sp (clear1 P f l) (if P g then g ^^^ f else g) := hs0
    cases hP : P g
    · rw [hP] at hs
      simp only [Bool.false_eq_true, if_false] at hs
      rcases sp_clear1 P f l hs with h | h
      · exact hg h
      · exact hf (Or.inr (by rw [Nat.xor_comm]; exact h))
    · rw [hP] at hs
      simp only [if_true] at hs
      rcases sp_clear1 P f l hs with h | h
      · exact hf (Or.inr (by rw [Nat.xor_comm]; exact h))
      · rw [xor_cancel] at h; exact hg h

/-- One that is not the head brought to the head. -/
theorem indep_swap {f g : Nat} {l : List Nat} (h : Indep (f :: g :: l)) : Indep (g :: f :: l) := by
  obtain ⟨hf, hg, hl⟩ := h
  refine ⟨fun hs => ?_, fun hs => hf (Or.inl hs), hl⟩
  rcases hs with hs | hs
  · exact hg hs
  · exact hf (Or.inr (by rw [Nat.xor_comm]; exact hs))

theorem indep_front {l : List Nat} {f : Nat} (hf : f ∈ l) (h : Indep l) : ∃ r, Indep (f :: r) ∧ r.length + 1 = l.length ∧ (∀ x ∈ r, x ∈ l) := by
  induction l with
  | nil => simp at hf
  | cons g l ih =>
    rcases List.mem_cons.1 hf with e | hm
    · subst e; exact ⟨l, h, rfl, fun x hx => List.mem_cons_of_mem _ hx⟩
    · obtain ⟨r, hr, hlen, hsub⟩ := ih hm h.2
      refine ⟨g :: r, ?_, by simp; omega, fun x hx => ?_⟩
      · refine indep_swap ⟨fun hs => h.1 ?_, hr⟩
        exact sp_sub (fun x hx => by
          rcases List.mem_cons.1 hx with e | hx
          · subst e; exact hm
          · exact hsub x hx) hs
      · rcases List.mem_cons.1 hx with e | hx
        · subst e; simp
        · exact List.mem_cons_of_mem _ (hsub x hx)

/-- No more independent ones than they are sums of. -/
theorem indep_le : ∀ (l2 l1 : List Nat), Indep l1 → (∀ f ∈ l1, sp l2 f) → l1.length ≤ l2.length
  | [], l1, hi, hs => by
    cases l1 with
    | nil => exact Nat.le_refl _
    | cons f l =>
      have : f = 0 := hs f (by simp)
      subst this
      exact absurd (sp_zero l) hi.1
  | g :: l2, l1, hi, hs => by
    refine Classical.byCases (fun hall : ∀ f ∈ l1, sp l2 f => ?_) (fun hno => ?_)
    · have := indep_le l2 l1 hi hall
      simp; omega
    · obtain ⟨f, hf⟩ : ∃ f, f ∈ l1 ∧ ¬ sp l2 f := Classical.byContradiction fun h => hno fun f hf => Classical.byContradiction fun hn => h ⟨f, hf, hn⟩
      obtain ⟨r, hr, hlen, hsub⟩ := indep_front hf.1 hi
      have hfg : sp l2 (f ^^^ g) := sp_add_left (hs f hf.1) hf.2
      have hP : ∃ P : Nat → Bool, ∀ x, P x = true ↔ ¬ sp l2 x := by
        refine ⟨fun x => @decide (¬ sp l2 x) (Classical.propDecidable _), fun x => ?_⟩
        simp
      obtain ⟨P, hP⟩ := hP
      have h1 := indep_clear1 P f r hr
      have h2 : ∀ x ∈ clear1 P f r, sp l2 x := by
        intro x hx
        obtain ⟨y, hy, rfl⟩ := List.mem_map.1 hx
        cases hPy : P y
        · simp only [Bool.false_eq_true, if_false]
          exact Classical.byContradiction fun hn => by have := (hP y).2 hn; rw [hPy] at this; cases this
        · simp only [if_true]
          have hy2 := sp_add_left (hs y (hsub y hy)) ((hP y).1 hPy)
          have := sp_xor hy2 hfg
          rwa [Nat.xor_assoc, ← Nat.xor_assoc g f g, Nat.xor_comm g f, xor_cancel] at this
      have := indep_le l2 (clear1 P f r) h1 h2
      have hl : (clear1 P f r).length = r.length := by simp [clear1]
      simp
      omega

/-- Two independent lists that are sums of each other are as long. -/
theorem indep_eq {l1 l2 : List Nat} (h1 : Indep l1) (h2 : Indep l2) (h12 : ∀ f ∈ l1, sp l2 f) (h21 : ∀ f ∈ l2, sp l1 f) : l1.length = l2.length :=
  Nat.le_antisymm (indep_le l2 l1 h1 h12) (indep_le l1 l2 h2 h21)

end Go.Proofs.YtnjaofkieajnlaaGreat
