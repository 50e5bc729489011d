/- The rows of a specification as plain lists: drawing, the choice of one piece's rows, the rows; nothing of the program. -/
namespace Go.Proofs.YtnjaofkieajnlaaGreat

/-- The next number that is drawn from. -/
def nxt (x : Nat) : Nat := (75 * x + 74) % 65537

theorem nxt_lt (x : Nat) : nxt x < 65537 := Nat.mod_lt _ (by omega)

/-- The rows below n that are not chosen, in order. -/
def opens (ch : Nat → Bool) (n : Nat) : List Nat := (List.range n).filter (fun i => !ch i)

theorem opens_zero (ch : Nat → Bool) : opens ch 0 = [] := rfl

theorem opens_succ (ch : Nat → Bool) (n : Nat) : opens ch (n + 1) = opens ch n ++ (if ch n then [] else [n]) := by
  unfold opens
  rw [List.range_succ, List.filter_append]
  cases h : ch n <;> simp [h]

theorem opens_len_succ (ch : Nat → Bool) (n : Nat) : (opens ch (n + 1)).length = (opens ch n).length + (if ch n then 0 else 1) := by
  rw [opens_succ]; cases ch n <;> simp

theorem opens_len_le (ch : Nat → Bool) (n : Nat) : (opens ch n).length ≤ n := by
  induction n with
  | zero => simp [opens_zero]
  | succ n ih => rw [opens_len_succ]; split <;> omega

theorem opens_len_mono (ch : Nat → Bool) (a b : Nat) (h : a ≤ b) : (opens ch a).length ≤ (opens ch b).length := by
  induction b with
  | zero => have : a = 0 := by omega
            subst this; exact Nat.le_refl _
  | succ b ih =>
    by_cases e : a = b + 1
    · subst e; exact Nat.le_refl _
    · have := ih (by omega)
      rw [opens_len_succ]; omega

theorem opens_at (ch : Nat → Bool) (k : Nat) (hk : ch k = false) (n : Nat) (h : k < n) : (opens ch n)[(opens ch k).length]? = some k := by
  induction n with
  | zero => omega
  | succ n ih =>
    rw [opens_succ]
    by_cases e : k = n
    · subst e; simp [hk]
    · have h1 := ih (by omega)
      rw [List.getElem?_append_left]
      · exact h1
      · exact (List.getElem?_eq_some_iff.1 h1).1

theorem opens_mem (ch : Nat → Bool) (n k : Nat) : k ∈ opens ch n ↔ k < n ∧ ch k = false := by
  simp [opens]

/-- The row at place d of those that are open. -/
def pickOpen (ch : Nat → Bool) (n d : Nat) : Nat := (opens ch n).getD d 0

theorem pickOpen_eq {ch : Nat → Bool} {n d k : Nat} (hk : ch k = false) (hl : (opens ch k).length = d) (hd : d < (opens ch n).length) : pickOpen ch n d = k ∧ k < n := by
  have hkn : k < n := by
    by_cases e : k < n
    · exact e
    · have := opens_len_mono ch n k (by omega); omega
  have := opens_at ch k hk n hkn
  rw [hl] at this
  exact ⟨by unfold pickOpen; rw [List.getD_eq_getElem?_getD, this]; rfl, hkn⟩

theorem pickOpen_spec {ch : Nat → Bool} {n d : Nat} (hd : d < (opens ch n).length) : pickOpen ch n d < n ∧ ch (pickOpen ch n d) = false := by
  have h : pickOpen ch n d ∈ opens ch n := by
    unfold pickOpen
    rw [List.getD_eq_getElem?_getD, List.getElem?_eq_getElem hd]
    exact List.getElem_mem hd
  exact (opens_mem ch n _).1 h

/-- One row more is chosen: one open row less. -/
theorem opens_set (ch : Nat → Bool) (n k : Nat) (hk : k < n) (hc : ch k = false) : (opens (fun i => ch i || i == k) n).length + 1 = (opens ch n).length := by
  induction n with
  | zero => omega
  | succ n ih =>
    rw [opens_len_succ, opens_len_succ]
    by_cases e : k = n
    · subst e
      have : ∀ m, m ≤ k → (opens (fun i => ch i || i == k) m).length = (opens ch m).length := by
        intro m
        induction m with
        | zero => intro _; rfl
        | succ m ihm =>
          intro hm
          rw [opens_len_succ, opens_len_succ, ihm (by omega)]
          have : (m == k) = false := by simp; omega
          simp [this]
      rw [this k (Nat.le_refl _)]
      simp [hc]
    · have h1 := ih (by omega)
      have : (n == k) = false := by simp; omega
      simp only [this, Bool.or_false]
      omega

/-- The number drawn from, and which rows are chosen, behind n draws for one piece; M rows. -/
def drawn (M : Nat) (x : Nat) : Nat → Nat × (Nat → Bool)
  | 0 => (x, fun _ => false)
  | n + 1 => (nxt (drawn M x n).1, fun i => (drawn M x n).2 i || i == pickOpen (drawn M x n).2 M (nxt (drawn M x n).1 % (M - n)))

theorem opens_none (n : Nat) : (opens (fun _ => false) n).length = n := by
  induction n with
  | zero => rfl
  | succ n ih => rw [opens_len_succ, ih]; simp

theorem drawn_open (M x n : Nat) (h : n ≤ M) : (opens (drawn M x n).2 M).length = M - n := by
  induction n with
  | zero => simp [drawn, opens_none]
  | succ n ih =>
    have h1 := ih (by omega)
    have hd : nxt (drawn M x n).1 % (M - n) < (opens (drawn M x n).2 M).length := by rw [h1]; exact Nat.mod_lt _ (by omega)
    obtain ⟨a, b⟩ := pickOpen_spec hd
    have h2 := opens_set (drawn M x n).2 M _ a b
    show (opens (fun i => (drawn M x n).2 i || i == pickOpen (drawn M x n).2 M (nxt (drawn M x n).1 % (M - n))) M).length = _
    omega

theorem drawn_lt (M x n : Nat) (hx : x < 65537) : (drawn M x n).1 < 65537 := by
  cases n with
  | zero => exact hx
  | succ n => exact nxt_lt _

/-- The number drawn from, and the pieces of data in each row, behind j pieces. -/
def dealt (M O x : Nat) : Nat → Nat × (Nat → List Nat)
  | 0 => (x, fun _ => [])
  | j + 1 => ((drawn M (dealt M O x j).1 O).1, fun i => (dealt M O x j).2 i ++ (if (drawn M (dealt M O x j).1 O).2 i then [j] else []))

theorem dealt_lt (M O x j : Nat) (hx : x < 65537) : (dealt M O x j).1 < 65537 := by
  induction j with
  | zero => exact hx
  | succ j ih => exact drawn_lt _ _ _ ih

theorem dealt_mem (M O x j i k : Nat) (h : k ∈ (dealt M O x j).2 i) : k < j := by
  induction j with
  | zero => simp [dealt] at h
  | succ j ih =>
    simp only [dealt, List.mem_append] at h
    rcases h with h | h
    · have := ih h; omega
    · split at h
      · simp at h; omega
      · simp at h

theorem dealt_len (M O x j i : Nat) : ((dealt M O x j).2 i).length ≤ j := by
  induction j with
  | zero => simp [dealt]
  | succ j ih =>
    simp only [dealt, List.length_append]
    split <;> simp <;> omega

/-- Piece j put into the rows that are chosen. -/
def withPiece (ch : Nat → Bool) (j : Nat) (L : Nat → List Nat) (i : Nat) : List Nat := L i ++ (if ch i then [j] else [])

theorem dealt_succ (M O x j : Nat) : (dealt M O x (j + 1)).2 = withPiece (drawn M (dealt M O x j).1 O).2 j (dealt M O x j).2 := rfl

theorem withPiece_none (j : Nat) (L : Nat → List Nat) (i : Nat) : withPiece (fun _ => false) j L i = L i := by simp [withPiece]

theorem withPiece_len (ch : Nat → Bool) (j : Nat) (L : Nat → List Nat) (i : Nat) : (withPiece ch j L i).length ≤ (L i).length + 1 := by
  unfold withPiece; cases ch i <;> simp

theorem mem_withPiece {ch : Nat → Bool} {j : Nat} {L : Nat → List Nat} {i : Nat} (h : ∀ k ∈ L i, k < j) : decide (j ∈ withPiece ch j L i) = ch i := by
  have : j ∉ L i := fun hj => Nat.lt_irrefl _ (h j hj)
  unfold withPiece
  cases ch i <;> simp [this]

theorem withPiece_set {ch : Nat → Bool} {j : Nat} {L : Nat → List Nat} {r : Nat} (h : ch r = false) (i : Nat) :
    (if i = r then withPiece ch j L r ++ [j] else withPiece ch j L i) = withPiece (fun k => ch k || k == r) j L i := by
  unfold withPiece
  by_cases e : i = r
  · subst e; simp [h]
  · have : (i == r) = false := by simp [e]
    simp [e, this]

/-- The choice as far as row n. -/
def upTo (ch : Nat → Bool) (n : Nat) (i : Nat) : Bool := decide (i < n) && ch i

theorem upTo_zero (ch : Nat → Bool) : upTo ch 0 = fun _ => false := by funext i; simp [upTo]

theorem upTo_same (ch : Nat → Bool) (n i : Nat) (h : i < n) : upTo ch n i = ch i := by simp [upTo, h]

theorem upTo_skip (ch : Nat → Bool) (n i : Nat) (h : ch n = false) : upTo ch (n + 1) i = upTo ch n i := by
  unfold upTo
  by_cases e : i = n
  · subst e; simp [h]
  · by_cases l : i < n
    · simp [l, show i < n + 1 from by omega]
    · simp [l, show ¬ i < n + 1 from by omega]

theorem upTo_take (ch : Nat → Bool) (j n : Nat) (L : Nat → List Nat) (h : ch n = true) (i : Nat) :
    (if i = n then withPiece (upTo ch n) j L n ++ [j] else withPiece (upTo ch n) j L i) = withPiece (upTo ch (n + 1)) j L i := by
  unfold withPiece upTo
  by_cases e : i = n
  · subst e; simp [h]
  · by_cases l : i < n
    · simp [e, l, show i < n + 1 from by omega]
    · simp [e, l, show ¬ i < n + 1 from by omega]

/-- The rows that have been closed by their spare pieces, i of them so far. -/
def closedAt (K : Nat) (L : Nat → List Nat) (n : Nat) (i : Nat) : List Nat :=
  if i < n then L i ++ ((if 0 < i then [K + i - 1] else []) ++ [K + i]) else L i

theorem closedAt_here (K : Nat) (L : Nat → List Nat) (n : Nat) : closedAt K L n n = L n := by simp [closedAt]

/-- Row n is half closed. -/
def halfAt (K : Nat) (L : Nat → List Nat) (n : Nat) (i : Nat) : List Nat := if i = n then L n ++ (if 0 < n then [K + n - 1] else []) else closedAt K L n i

theorem halfAt_none (K : Nat) (L : Nat → List Nat) (i : Nat) : halfAt K L 0 i = closedAt K L 0 i := by
  unfold halfAt closedAt
  by_cases e : i = 0 <;> simp [e]

theorem halfAt_some (K : Nat) (L : Nat → List Nat) (n : Nat) (h : 0 < n) (i : Nat) : (if i = n then closedAt K L n n ++ [K + n - 1] else closedAt K L n i) = halfAt K L n i := by
  unfold halfAt
  rw [closedAt_here]
  by_cases e : i = n <;> simp [e, h]

theorem halfAt_len (K : Nat) (L : Nat → List Nat) (n : Nat) : (halfAt K L n n).length ≤ (L n).length + 1 := by
  unfold halfAt
  rw [if_pos rfl]
  simp only [List.length_append]
  split <;> simp

theorem halfAt_close (K : Nat) (L : Nat → List Nat) (n i : Nat) : (if i = n then halfAt K L n n ++ [K + n] else halfAt K L n i) = closedAt K L (n + 1) i := by
  unfold halfAt
  by_cases e : i = n
  · subst e; simp [closedAt]
  · by_cases l : i < n
    · simp [e, closedAt, l, show i < n + 1 from by omega]
    · simp [e, closedAt, l, show ¬ i < n + 1 from by omega]

/-- Row i of a specification. -/
def rowOf (K M O S i : Nat) : List Nat := (dealt M O S K).2 i ++ ((if 0 < i then [K + i - 1] else []) ++ [K + i])

theorem closedAt_all (K M O S i : Nat) (h : i < M) : closedAt K (dealt M O S K).2 M i = rowOf K M O S i := by
  simp [closedAt, rowOf, h]

theorem rowOf_len (K M O S i : Nat) : (rowOf K M O S i).length ≤ K + 2 := by
  have := dealt_len M O S K i
  unfold rowOf
  simp only [List.length_append]
  split <;> simp <;> omega

end Go.Proofs.YtnjaofkieajnlaaGreat
