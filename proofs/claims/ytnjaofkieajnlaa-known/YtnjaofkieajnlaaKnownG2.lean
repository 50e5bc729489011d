/- Texts of the proof, part 3. -/
import Derived.Test.YtnjaofkieajnlaaKnownG1

/- Boxes as plain lists of facts: words as models, the rows' facts, how many places are missing. Nothing of the program. -/
namespace Go.Proofs.Ytnjaofkieajnlaa

/-- The sum of the pieces whose bits (below n) are set. -/
def evTo (x : Nat → Vec) (b : Nat) : Nat → Vec
  | 0 => v0
  | n + 1 => if b.testBit n then vx (evTo x b n) (x n) else evTo x b n

theorem evTo_xor (x : Nat → Vec) (a b n : Nat) : evTo x (a ^^^ b) n = vx (evTo x a n) (evTo x b n) := by
  induction n with
  | zero => exact (vx_zero _).symm
  | succ n ih =>
    simp only [evTo, Nat.testBit_xor, ih]
    cases a.testBit n <;> cases b.testBit n
    · simp
    · simp [vx_assoc]
    · simp only [Bool.xor_false, if_true, Bool.false_eq_true, if_false]; rw [vx_swap]
    · simp only [Bool.xor_self, Bool.false_eq_true, if_false, if_true]
      rw [vx_assoc, vx_comm (x n), ← vx_assoc, ← vx_assoc, vx_cancel]

theorem evTo_zero (x : Nat → Vec) (n : Nat) : evTo x 0 n = v0 := by
  induction n with
  | zero => rfl
  | succ n ih => simp [evTo, ih]

theorem evTo_unit (x : Nat → Vec) (i n : Nat) : evTo x (2 ^ i) n = if i < n then x i else v0 := by
  induction n with
  | zero => rfl
  | succ n ih =>
    simp only [evTo, ih, Nat.testBit_two_pow]
    by_cases e : i = n
    · subst e
      simp only [decide_true, if_true, Nat.lt_irrefl, if_false]
      rw [if_pos (by omega), vx_comm, vx_zero]
    · simp only [e, decide_false, Bool.false_eq_true, if_false]
      by_cases h : i < n
      · rw [if_pos h, if_pos (by omega)]
      · rw [if_neg h, if_neg (by omega)]

/-- Pieces that meet all facts. -/
def Meets (x : Nat → Vec) (n : Nat) (l : List Fct) : Prop := ∀ f ∈ l, evTo x f.1 n = byteAt f.2

theorem Meets.span {x : Nat → Vec} {n : Nat} {l : List Fct} (h : Meets x n l) {b : Nat} {v : Vec} (hb : SpanF l b v) : evTo x b n = v := by
  induction l generalizing b v with
  | nil => obtain ⟨h1, h2⟩ := hb
           subst h1 h2; exact evTo_zero x n
  | cons f l ih =>
    have hl : Meets x n l := fun g hg => h g (List.mem_cons_of_mem _ hg)
    rcases hb with hb | hb
    · exact ih hl hb
    · have h1 := ih hl hb
      rw [evTo_xor, h f (by simp)] at h1
      have h2 : vx (vx (evTo x b n) (byteAt f.2)) (byteAt f.2) = vx (vx v (byteAt f.2)) (byteAt f.2) := by rw [h1]
      rwa [vx_cancel, vx_cancel] at h2

theorem Meets.sound {x : Nat → Vec} {n : Nat} {l : List Fct} (h : Meets x n l) : Sound l := fun v hv => by
  have := h.span hv
  rw [evTo_zero] at this
  exact this.symm

/-- A row's bits. -/
def rowBits (row : List Nat) : Nat := row.foldl (fun b j => b ||| 2 ^ j) 0

theorem rowBits_from (row : List Nat) (b : Nat) : row.foldl (fun b j => b ||| 2 ^ j) b = b ||| rowBits row := by
  induction row generalizing b with
  | nil => simp [rowBits]
  | cons j row ih =>
    show row.foldl _ (b ||| 2 ^ j) = b ||| (row.foldl _ (0 ||| 2 ^ j))
    rw [ih, ih (0 ||| 2 ^ j), Nat.zero_or, Nat.or_assoc]

theorem rowBits_cons (j : Nat) (row : List Nat) : rowBits (j :: row) = 2 ^ j ||| rowBits row := by
  show row.foldl _ (0 ||| 2 ^ j) = _
  rw [rowBits_from, Nat.zero_or]

theorem testBit_rowBits (row : List Nat) (i : Nat) : (rowBits row).testBit i = decide (i ∈ row) := by
  induction row with
  | nil => simp [rowBits]
  | cons j row ih =>
    rw [rowBits_cons, Nat.testBit_or, ih, Nat.testBit_two_pow]
    by_cases e : j = i
    · subst e; simp
    · have e' : ¬ i = j := fun h => e h.symm
      simp [e, e']

theorem rowBits_xor (j : Nat) (row : List Nat) (h : j ∉ row) : rowBits (j :: row) = 2 ^ j ^^^ rowBits row := by
  apply Nat.eq_of_testBit_eq
  intro i
  rw [rowBits_cons, Nat.testBit_or, Nat.testBit_xor, Nat.testBit_two_pow, testBit_rowBits]
  by_cases e : j = i
  · subst e; simp [h]
  · simp [e]

/-- The rows' sums, by their bits. -/
theorem evTo_row (P : List ByteArray) (z n : Nat) (hp : ∀ x ∈ P, x.size = z) (hn : P.length ≤ n) : ∀ (row : List Nat) (t : ByteArray), row.Nodup → (∀ j ∈ row, j < P.length) → t.size = z →
    byteAt (row.foldl (addAt P) t) = vx (byteAt t) (evTo (fun j => byteAt (P.getD j ByteArray.empty)) (rowBits row) n)
  | [], t, _, _, _ => by
    show byteAt t = vx (byteAt t) (evTo _ 0 n)
    rw [evTo_zero, vx_zero]
  | j :: row, t, hd, hj, ht => by
    rw [List.nodup_cons] at hd
    have hjl := hj j (by simp)
    have hps : (P.getD j ByteArray.empty).size = z := hp _ (by rw [List.getD_eq_getElem?_getD, List.getElem?_eq_getElem hjl]; exact List.getElem_mem hjl)
    simp only [List.foldl_cons]
    have ha : addAt P t j = xorB t (P.getD j ByteArray.empty) := by unfold addAt; rw [if_pos hjl]
    rw [evTo_row P z n hp hn row _ hd.2 (fun k hk => hj k (List.mem_cons_of_mem _ hk)) (addAt_size hp ht), rowBits_xor j row hd.1, evTo_xor, evTo_unit, if_pos (by omega), ha, vec_xorB (by omega), vx_assoc]

/-- The facts of a box: the rows, and what was put in. -/
def rowFacts (K M O S z : Nat) : List Fct := (List.range M).map fun i => (rowBits (rowOf K M O S i), zeroB z)

/-- What was put in, as facts. -/
def putFacts (puts : List (Nat × ByteArray)) : List Fct := puts.map fun p => (2 ^ p.1, p.2)

def boxFacts (K M O S z : Nat) (puts : List (Nat × ByteArray)) : List Fct := rowFacts K M O S z ++ putFacts puts

/-- A word meets the facts of a box that has pieces of it. -/
theorem word_meets (K M O S z : Nat) (P : List ByteArray) (puts : List (Nat × ByteArray)) (hl : P.length = K + M) (hp : ∀ x ∈ P, x.size = z) (hfit : ∀ i, i < M → sumB P (rowOf K M O S i) z = zeroB z)
    (hputs : ∀ p ∈ puts, p.1 < K + M ∧ p.2 = P.getD p.1 ByteArray.empty) : Meets (fun j => byteAt (P.getD j ByteArray.empty)) (K + M) (boxFacts K M O S z puts) := by
  intro f hf
  rcases List.mem_append.1 hf with hf | hf
  · obtain ⟨i, hi, rfl⟩ := List.mem_map.1 hf
    have hiM := List.mem_range.1 hi
    have h := evTo_row P z (K + M) hp (by omega) (rowOf K M O S i) (zeroB z) (rowOf_nodup K M O S i) (fun j hj => by have := rowOf_lt K M O S i j hj; omega) (zeroB_size z)
    have h2 : (rowOf K M O S i).foldl (addAt P) (zeroB z) = zeroB z := hfit i hiM
    rw [h2, vec_zeroB, vx_comm, vx_zero] at h
    show evTo _ (rowBits (rowOf K M O S i)) (K + M) = byteAt (zeroB z)
    rw [vec_zeroB]
    exact h.symm
  · obtain ⟨p, hpm, rfl⟩ := List.mem_map.1 hf
    obtain ⟨h1, h2⟩ := hputs p hpm
    show evTo _ (2 ^ p.1) (K + M) = byteAt p.2
    rw [evTo_unit, if_pos h1, h2]

/-- Rows alone say noughts of every sum. -/
theorem rowFacts_sound (K M O S z : Nat) : ∀ {b : Nat} {v : Vec}, SpanF (rowFacts K M O S z) b v → v = v0 := by
  intro b v h
  have hm : Meets (fun _ => v0) 0 (rowFacts K M O S z) := fun f hf => by
    obtain ⟨i, _, rfl⟩ := List.mem_map.1 hf
    show v0 = byteAt (zeroB z)
    rw [vec_zeroB]
  exact (hm.span h).symm

/-- The rows' facts are of the box's size. -/
theorem boxFacts_sized (K M O S z : Nat) (puts : List (Nat × ByteArray)) (h : ∀ p ∈ puts, p.2.size = z) : Sized z (boxFacts K M O S z puts) := by
  intro f hf
  rcases List.mem_append.1 hf with hf | hf
  · obtain ⟨i, _, rfl⟩ := List.mem_map.1 hf
    exact zeroB_size z
  · obtain ⟨p, hp, rfl⟩ := List.mem_map.1 hf
    exact h p hp

theorem boxFacts_low (K M O S z n : Nat) (puts : List (Nat × ByteArray)) (hn : K + M ≤ n) (h : ∀ p ∈ puts, p.1 < K + M) : Low n (boxFacts K M O S z puts) := by
  intro f hf j hj
  rcases List.mem_append.1 hf with hf | hf
  · obtain ⟨i, hi, rfl⟩ := List.mem_map.1 hf
    have hiM := List.mem_range.1 hi
    show (rowBits (rowOf K M O S i)).testBit j = false
    rw [testBit_rowBits, decide_eq_false_iff_not]
    intro hm
    have := rowOf_lt K M O S i j hm
    omega
  · obtain ⟨p, hp, rfl⟩ := List.mem_map.1 hf
    have := h p hp
    show (2 ^ p.1).testBit j = false
    rw [Nat.testBit_two_pow, decide_eq_false_iff_not]
    omega

/-- The rows' bits are independent: row i is the last that has piece K + i. -/
theorem rows_indep (K M O S z : Nat) : Indep ((rowFacts K M O S z).reverse.map Prod.fst) := by
  have h : ∀ n, Indep ((((List.range n).map fun i => (rowBits (rowOf K M O S i), zeroB z)).reverse).map Prod.fst) ∧ (∀ f ∈ ((((List.range n).map fun i => (rowBits (rowOf K M O S i), zeroB z)).reverse).map Prod.fst), ∀ j, K + n ≤ j → f.testBit j = false) := by
    intro n
    induction n with
    | zero => exact ⟨True.intro, fun f hf => by simp at hf⟩
    | succ n ih =>
      rw [List.range_succ, List.map_append, List.reverse_append, List.map_append]
      refine ⟨⟨fun hs => ?_, ih.1⟩, fun f hf j hj => ?_⟩
      · have h1 := sp_low _ (K + n) ih.2 hs (K + n) (Nat.le_refl _)
        have h2 : (rowBits (rowOf K M O S n)).testBit (K + n) = true := by
          rw [testBit_rowBits, decide_eq_true_eq, rowOf_head]; simp
        have h3 : (rowBits (rowOf K M O S n)).testBit (K + n) = false := h1
        rw [h2] at h3
        cases h3
      · rcases List.mem_append.1 hf with hf | hf
        · simp at hf
          subst hf
          rw [testBit_rowBits, decide_eq_false_iff_not]
          intro hm
          have := rowOf_lt K M O S n j hm
          omega
        · exact ih.2 f hf j (by omega)
  exact (h M).1

/-- The units below n. -/
def unitsTo : Nat → List Nat
  | 0 => []
  | n + 1 => 2 ^ n :: unitsTo n

theorem unitsTo_length (n : Nat) : (unitsTo n).length = n := by
  induction n with
  | zero => rfl
  | succ n ih => simp [unitsTo, ih]

theorem unitsTo_low (n : Nat) : ∀ f ∈ unitsTo n, ∀ j, n ≤ j → f.testBit j = false := by
  induction n with
  | zero => intro f hf; simp [unitsTo] at hf
  | succ n ih =>
    intro f hf j hj
    rcases List.mem_cons.1 hf with e | hf
    · subst e; rw [Nat.testBit_two_pow, decide_eq_false_iff_not]; omega
    · exact ih f hf j (by omega)

theorem unitsTo_indep (n : Nat) : Indep (unitsTo n) := by
  induction n with
  | zero => exact True.intro
  | succ n ih =>
    refine ⟨fun hs => ?_, ih⟩
    have := sp_low _ n (unitsTo_low n) hs n (Nat.le_refl _)
    rw [Nat.testBit_two_pow] at this
    simp at this

theorem unitsTo_mem (n i : Nat) : 2 ^ i ∈ unitsTo n ↔ i < n := by
  induction n with
  | zero => simp [unitsTo]
  | succ n ih =>
    simp only [unitsTo, List.mem_cons, ih]
    constructor
    · rintro (h | h)
      · have := congrArg Nat.log2 h
        rw [Nat.log2_two_pow, Nat.log2_two_pow] at this
        omega
      · omega
    · intro h
      by_cases e : i = n
      · subst e; exact Or.inl rfl
      · exact Or.inr (by omega)

/-- Whatever has no bit from n on is a sum of units. -/
theorem units_span (n : Nat) : ∀ x, (∀ j, n ≤ j → x.testBit j = false) → sp (unitsTo n) x := by
  induction n with
  | zero => intro x hx; exact Nat.eq_of_testBit_eq (fun j => by rw [hx j (Nat.zero_le _)]; simp)
  | succ n ih =>
    intro x hx
    cases hb : x.testBit n
    · exact Or.inl (ih x (fun j hj => by
        by_cases e : j = n
        · rw [e]; exact hb
        · exact hx j (by omega)))
    · refine Or.inr (ih _ (fun j hj => ?_))
      rw [Nat.testBit_xor, Nat.testBit_two_pow]
      by_cases e : j = n
      · subst e; rw [hb]; simp
      · rw [hx j (by omega)]; simp; omega

/-- The document's own count: places at which nothing follows are put in, one by one. -/
def needTo (F : List Fct) (z : Nat) : Nat → List Fct × Nat
  | 0 => (F, 0)
  | i + 1 => if (told (needTo F z i).1 (2 ^ i) z).2 then needTo F z i else ((needTo F z i).1 ++ [(2 ^ i, zeroB z)], (needTo F z i).2 + 1)

structure NeedOk (F : List Fct) (z n i : Nat) (B : List Nat) : Prop where
  sized : Sized z (needTo F z i).1
  low : Low n (needTo F z i).1
  basis : ∃ C, Indep C ∧ C.length = B.length + (needTo F z i).2 ∧ (∀ f ∈ C, sp ((needTo F z i).1.map Prod.fst) f) ∧ (∀ f ∈ (needTo F z i).1.map Prod.fst, sp C f)
  all : ∀ k, k < i → sp ((needTo F z i).1.map Prod.fst) (2 ^ k)

theorem need_ok (F : List Fct) (z n : Nat) (B : List Nat) (hn : n ≤ 40) (hs : Sized z F) (hl : Low n F) (hB : Indep B) (h1 : ∀ f ∈ B, sp (F.map Prod.fst) f) (h2 : ∀ f ∈ F.map Prod.fst, sp B f) (i : Nat) (hi : i ≤ n) : NeedOk F z n i B := by
  induction i with
  | zero => exact ⟨hs, hl, ⟨B, hB, rfl, h1, h2⟩, fun k hk => by omega⟩
  | succ i ih =>
    have h := ih (by omega)
    have hlow40 : Low 40 (needTo F z i).1 := fun f hf j hj => h.low f hf j (by omega)
    obtain ⟨ht, _, _⟩ := told_ok (needTo F z i).1 (2 ^ i) z h.sized hlow40
    cases hc : (told (needTo F z i).1 (2 ^ i) z).2
    · have he : needTo F z (i + 1) = ((needTo F z i).1 ++ [(2 ^ i, zeroB z)], (needTo F z i).2 + 1) := by simp only [needTo]; rw [hc]; rfl
      have hno : ¬ sp ((needTo F z i).1.map Prod.fst) (2 ^ i) := fun hs => by have := ht.2 hs; rw [hc] at this; cases this
      obtain ⟨C, hC, hlen, hC1, hC2⟩ := h.basis
      have hmap : ((needTo F z i).1 ++ [(2 ^ i, zeroB z)]).map Prod.fst = (needTo F z i).1.map Prod.fst ++ [2 ^ i] := by simp
      refine ⟨?_, ?_, ⟨2 ^ i :: C, ⟨fun hs => hno (sp_of hC1 hs), hC⟩, ?_, ?_, ?_⟩, ?_⟩
      · rw [he]
        intro f hf
        rcases List.mem_append.1 hf with hf | hf
        · exact h.sized f hf
        · simp at hf; subst hf; exact zeroB_size z
      · rw [he]
        intro f hf j hj
        rcases List.mem_append.1 hf with hf | hf
        · exact h.low f hf j hj
        · simp at hf; subst hf
          show (2 ^ i).testBit j = false
          rw [Nat.testBit_two_pow, decide_eq_false_iff_not]; omega
      · rw [he]; simp [hlen]; omega
      · rw [he]
        intro f hf
        show sp (((needTo F z i).1 ++ [(2 ^ i, zeroB z)]).map Prod.fst) f
        rw [hmap]
        rcases List.mem_cons.1 hf with e | hf
        · subst e; exact sp_mem (by simp)
        · exact sp_sub (fun x hx => List.mem_append_left _ hx) (hC1 f hf)
      · rw [he]
        intro f hf
        have hf' : f ∈ ((needTo F z i).1 ++ [(2 ^ i, zeroB z)]).map Prod.fst := hf
        rw [hmap] at hf'
        rcases List.mem_append.1 hf' with hf' | hf'
        · exact Or.inl (hC2 f hf')
        · simp at hf'; subst hf'; exact sp_mem (by simp)
      · intro k hk
        rw [he]
        show sp (((needTo F z i).1 ++ [(2 ^ i, zeroB z)]).map Prod.fst) (2 ^ k)
        rw [hmap]
        by_cases e : k = i
        · subst e; exact sp_mem (by simp)
        · exact sp_sub (fun x hx => List.mem_append_left _ hx) (h.all k (by omega))
    · have he : needTo F z (i + 1) = needTo F z i := by simp only [needTo]; rw [hc]; rfl
      refine ⟨by rw [he]; exact h.sized, by rw [he]; exact h.low, by rw [he]; exact h.basis, fun k hk => ?_⟩
      rw [he]
      by_cases e : k = i
      · subst e; exact ht.1 hc
      · exact h.all k (by omega)

/-- HOW MANY ARE MISSING: as many as there are places, less the independent facts. -/
theorem need_count (F : List Fct) (z n : Nat) (B : List Nat) (hn : n ≤ 40) (hs : Sized z F) (hl : Low n F) (hB : Indep B) (h1 : ∀ f ∈ B, sp (F.map Prod.fst) f) (h2 : ∀ f ∈ F.map Prod.fst, sp B f) : (needTo F z n).2 + B.length = n := by
  have h := need_ok F z n B hn hs hl hB h1 h2 n (Nat.le_refl _)
  obtain ⟨C, hC, hlen, hC1, hC2⟩ := h.basis
  have h3 : C.length = (unitsTo n).length := by
    refine indep_eq hC (unitsTo_indep n) (fun f hf => ?_) (fun f hf => ?_)
    · exact units_span n f (sp_low _ n (fun g hg j hj => by
        obtain ⟨x, hx, rfl⟩ := List.mem_map.1 hg
        exact h.low x hx j hj) (hC1 f hf))
    · have hall : ∀ m, m ≤ n → ∀ f ∈ unitsTo m, sp C f := by
        intro m
        induction m with
        | zero => intro _ f hf; simp [unitsTo] at hf
        | succ m ih =>
          intro hm f hf
          rcases List.mem_cons.1 hf with e | hf
          · subst e; exact sp_of hC2 (h.all m (by omega))
          · exact ih (by omega) f hf
      exact hall n (Nat.le_refl _) f hf
  rw [unitsTo_length] at h3
  omega

end Go.Proofs.Ytnjaofkieajnlaa

/- The program's boxes as plain mathematics: what is known by its highest data, how it is taken away, what follows. Nothing of the program. -/
namespace Go.Proofs.Ytnjaofkieajnlaa

/-- What is known, at j a sum whose highest data is j (of no data: nothing). -/
abbrev Kn := Nat → Fct

def kn0 : Kn := fun _ => (0, ByteArray.empty)

/-- One known sum is taken away. -/
def woStep (kn : Kn) (j : Nat) (st : Fct) : Fct := if st.1.testBit j = true ∧ (kn j).1 ≠ 0 then (st.1 ^^^ (kn j).1, xorB st.2 (kn j).2) else st

/-- The known sums below n are taken away, from the highest on. -/
def wo (kn : Kn) : Nat → Fct → Fct
  | 0, st => st
  | n + 1, st => wo kn n (woStep kn n st)

/-- The known sums below n, the highest first. -/
def KB (kn : Kn) : Nat → List Fct
  | 0 => []
  | n + 1 => if (kn n).1 = 0 then KB kn n else kn n :: KB kn n

theorem KB_succ (kn : Kn) (n : Nat) : KB kn (n + 1) = if (kn n).1 = 0 then KB kn n else kn n :: KB kn n := rfl

/-- Each known sum's highest data is its own, below K; its piece is of the size. -/
def KnOk (K z : Nat) (kn : Kn) : Prop := ∀ j, (kn j).1 = 0 ∨ (j < K ∧ (kn j).1.testBit j = true ∧ (∀ i, j < i → (kn j).1.testBit i = false) ∧ (kn j).2.size = z)

theorem kn0_ok (K z : Nat) : KnOk K z kn0 := fun _ => Or.inl rfl

theorem KnOk.log {K z : Nat} {kn : Kn} (h : KnOk K z kn) {j : Nat} (hj : (kn j).1 ≠ 0) : j < K ∧ (kn j).1.testBit j = true ∧ (∀ i, j < i → (kn j).1.testBit i = false) ∧ (kn j).2.size = z ∧ (kn j).1.log2 = j := by
  rcases h j with h0 | ⟨h1, h2, h3, h4⟩
  · exact absurd h0 hj
  · exact ⟨h1, h2, h3, h4, (log2_of h2 h3).2⟩

theorem KnOk.lt {K z : Nat} {kn : Kn} (h : KnOk K z kn) (hK : K ≤ 20) (j : Nat) : (kn j).1 < 1048576 := by
  by_cases h0 : (kn j).1 = 0
  · rw [h0]; decide
  · obtain ⟨h1, _, h3, _⟩ := h.log h0
    have : (kn j).1 < 2 ^ 20 := Nat.lt_pow_two_of_testBit _ (fun i hi => h3 i (by omega))
    omega

theorem KB_mem {kn : Kn} {n : Nat} {f : Fct} (hf : f ∈ KB kn n) : ∃ j, j < n ∧ f = kn j ∧ (kn j).1 ≠ 0 := by
  induction n with
  | zero => simp [KB] at hf
  | succ n ih =>
    unfold KB at hf
    by_cases h0 : (kn n).1 = 0
    · rw [if_pos h0] at hf
      obtain ⟨j, hj, h⟩ := ih hf
      exact ⟨j, by omega, h⟩
    · rw [if_neg h0] at hf
      rcases List.mem_cons.1 hf with e | hf
      · exact ⟨n, by omega, e, h0⟩
      · obtain ⟨j, hj, h⟩ := ih hf
        exact ⟨j, by omega, h⟩

theorem KB_has {kn : Kn} {n j : Nat} (hj : j < n) (h : (kn j).1 ≠ 0) : kn j ∈ KB kn n := by
  induction n with
  | zero => omega
  | succ n ih =>
    unfold KB
    by_cases e : j = n
    · subst e; rw [if_neg h]; simp
    · have := ih (by omega)
      by_cases h0 : (kn n).1 = 0
      · rw [if_pos h0]; exact this
      · rw [if_neg h0]; exact List.mem_cons_of_mem _ this

theorem Ech.up {n n' m : Nat} {E : List Fct} (h : Ech n E m) (hn : n ≤ n') : Ech n' E m := by
  cases E with
  | nil => have : m ≤ n := h
           show m ≤ n'; omega
  | cons f E => obtain ⟨b, hb, r⟩ := h
                exact ⟨b, by omega, r⟩

theorem KB_ech {K z : Nat} {kn : Kn} (h : KnOk K z kn) (n : Nat) : Ech n (KB kn n) 0 := by
  induction n with
  | zero => exact Nat.le_refl _
  | succ n ih =>
    unfold KB
    by_cases h0 : (kn n).1 = 0
    · rw [if_pos h0]; exact ih.up (by omega)
    · rw [if_neg h0]
      obtain ⟨_, h2, h3, _⟩ := h.log h0
      exact ⟨n, by omega, h2, h3, ih⟩

theorem KB_sized {K z : Nat} {kn : Kn} (h : KnOk K z kn) (n : Nat) : Sized z (KB kn n) := by
  intro f hf
  obtain ⟨j, _, rfl, h0⟩ := KB_mem hf
  exact (h.log h0).2.2.2.1

theorem wo_tell {K z : Nat} {kn : Kn} (h : KnOk K z kn) : ∀ (n : Nat) (st : Fct), wo kn n st = tell (KB kn n) st
  | 0, _ => rfl
  | n + 1, st => by
    show wo kn n (woStep kn n st) = _
    rw [wo_tell h n, KB_succ]
    by_cases h0 : (kn n).1 = 0
    · rw [if_pos h0]
      unfold woStep
      rw [if_neg (fun x => x.2 h0)]
    · rw [if_neg h0]
      show _ = tell (KB kn n) (tellStep st (kn n))
      congr 1
      unfold woStep tellStep
      rw [(h.log h0).2.2.2.2]
      by_cases hb : st.1.testBit n = true
      · rw [if_pos ⟨hb, h0⟩, if_pos ⟨h0, hb⟩]
      · rw [if_neg (fun x => hb x.1), if_neg (fun x => hb x.2)]

theorem ech_sound {n m : Nat} {E : List Fct} (h : Ech n E m) : Sound E := by
  induction E generalizing n with
  | nil => intro v hv; exact hv.2
  | cons g E ih =>
    obtain ⟨b, hb, h1, h2, he⟩ := h
    refine (ih he).add g (fun hs => ?_)
    have := sp_low _ b (ech_low he) hs b (Nat.le_refl _)
    rw [h1] at this
    cases this

/-- All the known sums. -/
abbrev KA (kn : Kn) : List Fct := KB kn 20

/-- What is left of some data's sum. -/
def left (kn : Kn) (x : Nat) (p : ByteArray) : Fct := wo kn 20 (x, p)

structure Left (K z : Nat) (kn : Kn) (x : Nat) (p : ByteArray) : Prop where
  span : SpanF (KA kn) (x ^^^ (left kn x p).1) (vx (byteAt p) (byteAt (left kn x p).2))
  size : (left kn x p).2.size = z
  free : ∀ j, j < 20 → (kn j).1 ≠ 0 → (left kn x p).1.testBit j = false
  low : ∀ n, K ≤ n → x < 2 ^ n → (left kn x p).1 < 2 ^ n
  zero : (left kn x p).1 = 0 ↔ sp ((KA kn).map Prod.fst) x

theorem left_ok {K z : Nat} {kn : Kn} (h : KnOk K z kn) (x : Nat) (p : ByteArray) (hp : p.size = z) : Left K z kn x p := by
  have hech := KB_ech h 20
  obtain ⟨h1, h2, h3, h4⟩ := tell_ok z (KA kn) 20 0 (x, p) hech (KB_sized h 20) hp
  have hw : wo kn 20 (x, p) = tell (KA kn) (x, p) := wo_tell h 20 _
  refine ⟨?_, ?_, ?_, ?_, ?_⟩
  · unfold left; rw [hw]; exact h1
  · unfold left; rw [hw]; exact h2
  · unfold left; rw [hw]
    intro j hj h0
    have := h3 (kn j) (KB_has hj h0)
    rwa [(h.log h0).2.2.2.2] at this
  · intro n hn hx
    unfold left; rw [hw]
    have hs : sp ((KA kn).map Prod.fst) (x ^^^ (tell (KA kn) (x, p)).1) := (sp_iff _ _).2 ⟨_, h1⟩
    have hl := sp_low _ n (fun f hf j hj => by
      obtain ⟨g, hg, rfl⟩ := List.mem_map.1 hf
      obtain ⟨i, hi, rfl, h0⟩ := KB_mem hg
      have := h.log h0
      exact this.2.2.1 j (by omega)) hs
    refine Nat.lt_pow_two_of_testBit _ (fun i hi => ?_)
    have h5 := hl i hi
    rw [Nat.testBit_xor, Nat.testBit_lt_two_pow (Nat.lt_of_lt_of_le hx (Nat.pow_le_pow_right (by omega) hi)), Bool.false_xor] at h5
    exact h5
  · unfold left; rw [hw]
    constructor
    · intro h0
      rw [h0] at h1
      have h1' : SpanF (KA kn) (x ^^^ 0) _ := h1
      rw [Nat.xor_zero] at h1'
      exact (sp_iff _ _).2 ⟨_, h1'⟩
    · intro hs
      have h6 := (sp_iff _ _).2 ⟨_, h1⟩
      have h7 := sp_xor hs h6
      have h8 : sp ((KA kn).map Prod.fst) (tell (KA kn) (x, p)).1 := by
        rw [← Nat.xor_assoc, Nat.xor_self, Nat.zero_xor] at h7
        exact h7
      exact ech_zero hech h8 h3

/-- Behind a piece that was put in. -/
def putK (kn : Kn) (x : Nat) (p : ByteArray) : Kn := if (left kn x p).1 = 0 then kn else fun j => if j = (left kn x p).1.log2 then left kn x p else kn j

theorem top_of {x : Nat} (h : x ≠ 0) : x.testBit x.log2 = true ∧ ∀ j, x.log2 < j → x.testBit j = false :=
  ⟨Nat.testBit_log2 h, fun j hj => Nat.testBit_lt_two_pow (Nat.lt_of_lt_of_le Nat.lt_log2_self (Nat.pow_le_pow_right (by omega) hj))⟩

theorem left_top {K z : Nat} {kn : Kn} (h : KnOk K z kn) (hK : K ≤ 20) {x : Nat} {p : ByteArray} (hp : p.size = z) (hx : x < 2 ^ K) (h0 : (left kn x p).1 ≠ 0) : (left kn x p).1.log2 < K ∧ (kn (left kn x p).1.log2).1 = 0 := by
  have hl := left_ok h x p hp
  have hlt := hl.low K (Nat.le_refl _) hx
  have h1 : (left kn x p).1.log2 < K := (Nat.log2_lt h0).2 hlt
  refine ⟨h1, ?_⟩
  by_cases hk : (kn (left kn x p).1.log2).1 = 0
  · exact hk
  · have h2 := hl.free _ (by omega) hk
    rw [(top_of h0).1] at h2
    cases h2

theorem putK_ok {K z : Nat} {kn : Kn} (h : KnOk K z kn) (hK : K ≤ 20) {x : Nat} {p : ByteArray} (hp : p.size = z) (hx : x < 2 ^ K) : KnOk K z (putK kn x p) := by
  unfold putK
  by_cases h0 : (left kn x p).1 = 0
  · rw [if_pos h0]; exact h
  · rw [if_neg h0]
    intro j
    by_cases e : j = (left kn x p).1.log2
    · simp only [if_pos e]
      obtain ⟨t1, t2⟩ := top_of h0
      exact Or.inr ⟨by rw [e]; exact (left_top h hK hp hx h0).1, by rw [e]; exact t1, by rw [e]; exact t2, (left_ok h x p hp).size⟩
    · simp only [if_neg e]; exact h j

/-- How many are missing. -/
def openK (kn : Kn) : Nat → Nat
  | 0 => 0
  | n + 1 => openK kn n + if (kn n).1 = 0 then 1 else 0

theorem openK_succ (kn : Kn) (n : Nat) : openK kn (n + 1) = openK kn n + if (kn n).1 = 0 then 1 else 0 := rfl

theorem openK_le (kn : Kn) (n : Nat) : openK kn n ≤ n := by
  induction n with
  | zero => exact Nat.le_refl _
  | succ n ih => unfold openK; split <;> omega

theorem openK_KB (kn : Kn) (n : Nat) : openK kn n + (KB kn n).length = n := by
  induction n with
  | zero => rfl
  | succ n ih =>
    unfold openK KB
    by_cases h : (kn n).1 = 0
    · rw [if_pos h, if_pos h]; omega
    · rw [if_neg h, if_neg h, List.length_cons]; omega

theorem openK_kn0 (n : Nat) : openK kn0 n = n := by
  induction n with
  | zero => rfl
  | succ n ih => show openK kn0 n + 1 = n + 1; rw [ih]

theorem openK_set (kn : Kn) (t : Nat) (f : Fct) (hf : f.1 ≠ 0) (h0 : (kn t).1 = 0) (n : Nat) : openK (fun j => if j = t then f else kn j) n + (if t < n then 1 else 0) = openK kn n := by
  induction n with
  | zero => rfl
  | succ n ih =>
    rw [openK_succ, openK_succ]
    by_cases e : n = t
    · subst e
      rw [if_neg (Nat.lt_irrefl _)] at ih
      simp only [if_true, if_neg hf, if_pos h0, if_pos (Nat.lt_succ_self n)]
      omega
    · simp only [if_neg e]
      by_cases l : t < n
      · rw [if_pos l] at ih; rw [if_pos (show t < n + 1 from by omega)]; omega
      · rw [if_neg l] at ih; rw [if_neg (show ¬ t < n + 1 from by omega)]; omega

theorem openK_put {K z : Nat} {kn : Kn} (h : KnOk K z kn) (hK : K ≤ 20) {x : Nat} {p : ByteArray} (hp : p.size = z) (hx : x < 2 ^ K) (h0 : (left kn x p).1 ≠ 0) : openK (putK kn x p) K + 1 = openK kn K := by
  obtain ⟨h1, h2⟩ := left_top h hK hp hx h0
  have := openK_set kn _ (left kn x p) h0 h2 K
  rw [if_pos h1] at this
  unfold putK
  rw [if_neg h0]
  exact this

theorem KB_above {K z : Nat} {kn : Kn} (h : KnOk K z kn) (n : Nat) (hn : K ≤ n) : KB kn n = KB kn K := by
  induction n with
  | zero => have : K = 0 := by omega
            rw [this]
  | succ n ih =>
    by_cases e : K = n + 1
    · rw [e]
    · rw [KB_succ]
      have h0 : (kn n).1 = 0 := by
        rcases h n with h0 | h1
        · exact h0
        · omega
      rw [if_pos h0]
      exact ih (by omega)

/-- What was known is so still. -/
theorem putK_keeps {K z : Nat} {kn : Kn} (h : KnOk K z kn) (hK : K ≤ 20) {x : Nat} {p : ByteArray} (hp : p.size = z) (hx : x < 2 ^ K) {b : Nat} {v : Vec} (hs : SpanF (KA kn) b v) : SpanF (KA (putK kn x p)) b v := by
  refine SpanF_of (fun f hf => ?_) hs
  obtain ⟨j, hj, rfl, hj0⟩ := KB_mem hf
  unfold putK
  by_cases h0 : (left kn x p).1 = 0
  · rw [if_pos h0]; exact SpanF_mem hf
  · rw [if_neg h0]
    have hne : j ≠ (left kn x p).1.log2 := fun e => hj0 (by rw [e]; exact (left_top h hK hp hx h0).2)
    have hm : (fun i => if i = (left kn x p).1.log2 then left kn x p else kn i) j ∈ KA (fun i => if i = (left kn x p).1.log2 then left kn x p else kn i) := KB_has hj (by simp only [if_neg hne]; exact hj0)
    simp only [if_neg hne] at hm
    exact SpanF_mem hm

/-- A piece that did not follow, or that does, follows behind it. -/
theorem putK_has {K z : Nat} {kn : Kn} (h : KnOk K z kn) (hK : K ≤ 20) {x : Nat} {p : ByteArray} (hp : p.size = z) (hx : x < 2 ^ K) (h0 : (left kn x p).1 = 0 → (left kn x p).2 = zeroB z) : SpanF (KA (putK kn x p)) x (byteAt p) := by
  have hl := left_ok h x p hp
  have h1 := putK_keeps h hK hp hx hl.span
  by_cases e : (left kn x p).1 = 0
  · rw [e, Nat.xor_zero, h0 e, vec_zeroB, vx_zero] at h1
    exact h1
  · have hm : SpanF (KA (putK kn x p)) (left kn x p).1 (byteAt (left kn x p).2) := by
      unfold putK
      rw [if_neg e]
      have ht := left_top h hK hp hx e
      have hm : (fun i => if i = (left kn x p).1.log2 then left kn x p else kn i) (left kn x p).1.log2 ∈ KA (fun i => if i = (left kn x p).1.log2 then left kn x p else kn i) := KB_has (by omega) (by simp only [if_true]; exact e)
      simp only [if_true] at hm
      exact SpanF_mem hm
    have h2 := SpanF_xor h1 hm
    rw [xor_cancel, vx_cancel] at h2
    exact h2

/-- Whatever is known behind a put was known or is what was put in. -/
theorem putK_back {K z : Nat} {kn : Kn} (h : KnOk K z kn) {x : Nat} {p : ByteArray} (hp : p.size = z) {G : List Fct} (hG : ∀ f ∈ KA kn, SpanF G f.1 (byteAt f.2)) (hx : SpanF G x (byteAt p)) : ∀ f ∈ KA (putK kn x p), SpanF G f.1 (byteAt f.2) := by
  have hl := left_ok h x p hp
  have h1 := SpanF_xor hx (SpanF_of hG hl.span)
  rw [← Nat.xor_assoc, Nat.xor_self, Nat.zero_xor, ← vx_assoc, vx_self, vx_comm, vx_zero] at h1
  intro f hf
  unfold putK at hf
  by_cases e : (left kn x p).1 = 0
  · rw [if_pos e] at hf; exact hG f hf
  · rw [if_neg e] at hf
    obtain ⟨j, hj, rfl, hj0⟩ := KB_mem hf
    by_cases ej : j = (left kn x p).1.log2
    · simp only [if_pos ej]; exact h1
    · simp only [if_neg ej] at hj0 ⊢
      exact hG _ (KB_has hj hj0)

/-- All follow just where none is missing. -/
theorem open_none {K z : Nat} {kn : Kn} (h : KnOk K z kn) (hK : K ≤ 20) (h0 : openK kn K = 0) {x : Nat} (hx : x < 2 ^ K) : sp ((KA kn).map Prod.fst) x := by
  have hech := KB_ech h 20
  have hlen := openK_KB kn K
  rw [h0, Nat.zero_add] at hlen
  have hA : KA kn = KB kn K := KB_above h 20 hK
  by_cases hs : sp ((KA kn).map Prod.fst) x
  · exact hs
  · have hi : Indep (x :: (KA kn).map Prod.fst) := ⟨hs, ech_indep hech⟩
    have := indep_le (unitsTo K) _ hi (fun f hf => units_span K f (by
      rcases List.mem_cons.1 hf with e | hf
      · subst e; exact fun j hj => Nat.testBit_lt_two_pow (Nat.lt_of_lt_of_le hx (Nat.pow_le_pow_right (by omega) hj))
      · rw [hA] at hf; exact fun j hj => ech_low (KB_ech h K) f hf j hj))
    rw [unitsTo_length, List.length_cons, List.length_map, hA, hlen] at this
    omega

theorem open_some {K z : Nat} {kn : Kn} (h : KnOk K z kn) (hK : K ≤ 20) (hall : ∀ j, j < K → sp ((KA kn).map Prod.fst) (2 ^ j)) : openK kn K = 0 := by
  have hlen := openK_KB kn K
  have hA : KA kn = KB kn K := KB_above h 20 hK
  have hu : ∀ m, m ≤ K → ∀ f ∈ unitsTo m, sp ((KA kn).map Prod.fst) f := by
    intro m
    induction m with
    | zero => intro _ f hf; simp [unitsTo] at hf
    | succ m ih =>
      intro hm f hf
      rcases List.mem_cons.1 hf with e | hf
      · subst e; exact hall m (by omega)
      · exact ih (by omega) f hf
  have := indep_le _ (unitsTo K) (unitsTo_indep K) (hu K (Nat.le_refl _))
  rw [unitsTo_length, List.length_map, hA] at this
  omega

end Go.Proofs.Ytnjaofkieajnlaa
