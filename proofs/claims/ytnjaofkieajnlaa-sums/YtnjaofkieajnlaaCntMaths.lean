/- How often a piece is in the rows, and that each row rises; nothing of the program. -/
import Derived.Test.YtnjaofkieajnlaaFitMaths
namespace Go.Proofs.Ytnjaofkieajnlaa

/-- In how many of the first i rows piece j is. -/
def cntTo (L : Nat → List Nat) (j : Nat) : Nat → Nat
  | 0 => 0
  | i + 1 => cntTo L j i + (if j ∈ L i then 1 else 0)

theorem cntTo_le (L : Nat → List Nat) (j i : Nat) : cntTo L j i ≤ i := by
  induction i with
  | zero => exact Nat.le_refl _
  | succ i ih => unfold cntTo; split <;> omega

/-- Behind k pieces of row i. -/
def cntIn (L : Nat → List Nat) (i k j : Nat) : Nat := cntTo L j i + (if j ∈ (L i).take k then 1 else 0)

theorem cntIn_zero (L : Nat → List Nat) (i j : Nat) : cntIn L i 0 j = cntTo L j i := by simp [cntIn]

theorem cntIn_all (L : Nat → List Nat) (i k j : Nat) (h : (L i).length ≤ k) : cntIn L i k j = cntTo L j (i + 1) := by
  show cntTo L j i + _ = cntTo L j i + _
  rw [List.take_of_length_le h]

theorem cntIn_le (L : Nat → List Nat) (i k j : Nat) : cntIn L i k j ≤ i + 1 := by
  have := cntTo_le L j i
  unfold cntIn; split <;> omega

theorem cntIn_step (L : Nat → List Nat) (i k : Nat) (hk : k < (L i).length) (hn : (L i).Nodup) (j : Nat) :
    (if j = (L i)[k] then cntIn L i k j + 1 else cntIn L i k j) = cntIn L i (k + 1) j := by
  unfold cntIn
  rw [List.take_succ_eq_append_getElem hk]
  by_cases e : j = (L i)[k]
  · have hno : j ∉ (L i).take k := by
      intro hm
      obtain ⟨q, hq, he⟩ := List.mem_iff_getElem.1 hm
      rw [List.length_take] at hq
      rw [List.getElem_take] at he
      exact (List.pairwise_iff_getElem.1 hn q k (by omega) hk (by omega)) (he.trans e)
    rw [if_pos e, if_neg hno, if_pos (List.mem_append.2 (Or.inr (List.mem_singleton.2 e)))]
  · rw [if_neg e]
    congr 1
    have : j ∈ (L i).take k ++ [(L i)[k]] ↔ j ∈ (L i).take k := by
      rw [List.mem_append, List.mem_singleton]
      exact ⟨fun h => h.elim id (fun h => absurd h e), Or.inl⟩
    simp only [this]

/-- The pieces of data of a row, of those that are chosen. -/
theorem mem_dealt (M O x j n i : Nat) : j ∈ (dealt M O x n).2 i ↔ j < n ∧ (drawn M (dealt M O x j).1 O).2 i = true := by
  induction n with
  | zero => simp [dealt]
  | succ n ih =>
    simp only [dealt, List.mem_append, ih]
    by_cases e : j = n
    · subst e
      cases h : (drawn M (dealt M O x j).1 O).2 i <;> simp
    · have : j ∉ (if (drawn M (dealt M O x n).1 O).2 i = true then [n] else []) := by split <;> simp [e]
      constructor
      · rintro (h | h)
        · exact ⟨by omega, h.2⟩
        · exact absurd h this
      · rintro ⟨h1, h2⟩
        exact Or.inl ⟨by omega, h2⟩

theorem mem_rowOf (K M O S j i : Nat) (hj : j < K) : j ∈ rowOf K M O S i ↔ (drawn M (dealt M O S j).1 O).2 i = true := by
  unfold rowOf
  rw [List.mem_append, mem_dealt]
  constructor
  · rintro (h | h)
    · exact h.2
    · simp only [List.mem_append, List.mem_singleton] at h
      rcases h with h | h
      · split at h
        · simp at h; omega
        · simp at h
      · omega
  · exact fun h => Or.inl ⟨hj, h⟩

theorem cntTo_opens (L : Nat → List Nat) (j : Nat) (ch : Nat → Bool) (h : ∀ i, j ∈ L i ↔ ch i = true) (n : Nat) : cntTo L j n + (opens ch n).length = n := by
  induction n with
  | zero => rfl
  | succ n ih =>
    rw [opens_len_succ]
    unfold cntTo
    have h1 := h n
    cases hc : ch n
    · have : j ∉ L n := by rw [h1, hc]; simp
      simp [this]; omega
    · have : j ∈ L n := by rw [h1, hc]
      simp [this]; omega

/-- Each piece of data is in as many rows as it should be. -/
theorem cnt_ones (K M O S j : Nat) (hj : j < K) (hO : O ≤ M) : cntTo (rowOf K M O S) j M = O := by
  have h := cntTo_opens (rowOf K M O S) j (drawn M (dealt M O S j).1 O).2 (fun i => mem_rowOf K M O S j i hj) M
  rw [drawn_open M _ O hO] at h
  omega

/-- A row rises. -/
theorem dealt_rises (M O x n i : Nat) : ((dealt M O x n).2 i).Pairwise (· < ·) := by
  induction n with
  | zero => simp [dealt]
  | succ n ih =>
    simp only [dealt]
    rw [List.pairwise_append]
    refine ⟨ih, by split <;> simp, fun a ha b hb => ?_⟩
    have := dealt_mem M O x n i a ha
    split at hb
    · simp at hb; omega
    · simp at hb

theorem rowOf_rises (K M O S i : Nat) : (rowOf K M O S i).Pairwise (· < ·) := by
  rw [rowOf_head, List.pairwise_append]
  refine ⟨?_, by simp, fun a ha b hb => ?_⟩
  · unfold rowHead
    rw [List.pairwise_append]
    refine ⟨dealt_rises M O S K i, by split <;> simp, fun a ha b hb => ?_⟩
    have := dealt_mem M O S K i a ha
    split at hb
    · simp at hb; omega
    · simp at hb
  · have := rowHead_lt K M O S i a ha
    simp at hb; omega

/-- The piece ahead of place k; -1, if there is none. -/
def lastOf (l : List Nat) : Nat → Int
  | 0 => -1
  | k + 1 => ((l.getD k 0 : Nat) : Int)

theorem lastOf_lt {l : List Nat} (h : l.Pairwise (· < ·)) (k : Nat) (hk : k < l.length) : lastOf l k < ((l.getD k 0 : Nat) : Int) := by
  cases k with
  | zero => simp only [lastOf]; omega
  | succ k =>
    have h1 := List.pairwise_iff_getElem.1 h k (k + 1) (by omega) hk (by omega)
    simp only [lastOf]
    rw [List.getD_eq_getElem?_getD, List.getD_eq_getElem?_getD, List.getElem?_eq_getElem hk, List.getElem?_eq_getElem (by omega)]
    simpa using h1

/-- How many spare pieces are among the first k of a row. -/
def endsOf (K : Nat) (l : List Nat) (k : Nat) : Nat := ((l.take k).filter (fun j => decide (K ≤ j))).length

theorem endsOf_zero (K : Nat) (l : List Nat) : endsOf K l 0 = 0 := by simp [endsOf]
theorem endsOf_le (K : Nat) (l : List Nat) (k : Nat) : endsOf K l k ≤ k := by
  unfold endsOf
  have h1 := List.length_filter_le (fun j => decide (K ≤ j)) (l.take k)
  have h2 := List.length_take_le k l
  omega
theorem endsOf_step (K : Nat) (l : List Nat) (k : Nat) (hk : k < l.length) : endsOf K l (k + 1) = endsOf K l k + (if K ≤ l.getD k 0 then 1 else 0) := by
  unfold endsOf
  have hg : l.getD k 0 = l[k] := by rw [List.getD_eq_getElem?_getD, List.getElem?_eq_getElem hk]; rfl
  rw [List.take_succ_eq_append_getElem hk, List.filter_append, List.length_append, hg]
  by_cases h : K ≤ l[k] <;> simp [h]

theorem rowOf_last (K M O S i : Nat) : lastOf (rowOf K M O S i) (rowOf K M O S i).length = ((K + i : Nat) : Int) := by
  have hl : (rowOf K M O S i).length = (rowHead K M O S i).length + 1 := by rw [rowOf_head]; simp
  rw [hl]
  simp only [lastOf]
  rw [rowOf_head, List.getD_eq_getElem?_getD, List.getElem?_append_right (Nat.le_refl _)]
  simp

theorem rowOf_ends (K M O S i : Nat) : endsOf K (rowOf K M O S i) (rowOf K M O S i).length = if 0 < i then 2 else 1 := by
  unfold endsOf
  rw [List.take_length]
  unfold rowOf
  rw [List.filter_append, List.filter_append]
  have h0 : ((dealt M O S K).2 i).filter (fun j => decide (K ≤ j)) = [] := by
    rw [List.filter_eq_nil_iff]
    intro j hj
    have := dealt_mem M O S K i j hj
    simp; omega
  rw [h0]
  by_cases h : 0 < i
  · rw [if_pos h, if_pos h]
    have : K ≤ K + i - 1 := by omega
    simp [this]
  · rw [if_neg h, if_neg h]
    simp

theorem rowOf_prev (K M O S i : Nat) (hi : 0 < i) : 2 ≤ (rowOf K M O S i).length ∧ (rowOf K M O S i).getD ((rowOf K M O S i).length - 2) 0 = K + i - 1 := by
  have hl : (rowOf K M O S i).length = ((dealt M O S K).2 i).length + 2 := by simp [rowOf, hi]
  refine ⟨by omega, ?_⟩
  rw [hl]
  unfold rowOf
  rw [if_pos hi, List.getD_eq_getElem?_getD, List.getElem?_append_right (by omega)]
  simp

end Go.Proofs.Ytnjaofkieajnlaa
