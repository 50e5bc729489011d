/- Boxes as plain lists of facts: words as models, the rows' facts, how many places are missing. Nothing of the program. -/
import Derived.Test.YtnjaofkieajnlaaGreatTold
import Derived.Test.YtnjaofkieajnlaaGreatFitMaths
namespace Go.Proofs.YtnjaofkieajnlaaGreat

/-- The sum of the pieces whose bits (below n) are set. -/
def evTo (x : Nat → Vec) (b : Nat) : Nat → Vec
  | 0 => v0
  | n + 1 => if b.testBit n then vx (evTo x b n) (x n) else evTo x b n

theorem evTo_xor (x : Nat → Vec) (a b n : Nat) : evTo x (a ^^^ b) n = vx (evTo x a n) (evTo x b n) := by
  induction n with
  | zero => exact (vx_zero _).symm
  | succ n ih =>
    simp only [evTo, Nat.testBit_xor, ih]
    cases a.testBit n <;> cases b.testBit n
    · simp
    · simp [vx_assoc]
    · simp only [Bool.xor_false, if_true, Bool.false_eq_true, if_false]; rw [vx_swap]
    · simp only [Bool.xor_self, Bool.false_eq_true, if_false, if_true]
      rw [vx_assoc, vx_comm (x n), ← vx_assoc, ← vx_assoc, vx_cancel]

theorem evTo_zero (x : Nat → Vec) (n : Nat) : evTo x 0 n = v0 := by
  induction n with
  | zero => rfl
  | succ n ih => simp [evTo, ih]

theorem evTo_unit (x : Nat → Vec) (i n : Nat) : evTo x (2 ^ i) n = if i < n then x i else v0 := by
  induction n with
  | zero => rfl
  | succ n ih =>
    simp only [evTo, ih, Nat.testBit_two_pow]
    by_cases e : i = n
    · subst e
      simp only [decide_true, if_true, Nat.lt_irrefl, if_false]
      rw [if_pos (by omega), vx_comm, vx_zero]
    · simp only [e, decide_false, Bool.false_eq_true, if_false]
      by_cases h : i < n
      · rw [if_pos h, if_pos (by omega)]
      · rw [if_neg h, if_neg (by omega)]

/-- Pieces that meet all facts. -/
def Meets (x : Nat → Vec) (n : Nat) (l : List Fct) : Prop := ∀ f ∈ l, evTo x f.1 n = byteAt f.2

theorem Meets.span {x : Nat → Vec} {n : Nat} {l : List Fct} (h : Meets x n l) {b : Nat} {v : Vec} (hb : SpanF l b v) : evTo x b n = v := by
  induction l generalizing b v with
  | nil => obtain ⟨h1, h2⟩ := hb
           subst h1 h2; exact evTo_zero x n
  | cons f l ih =>
    have hl : Meets x n l := fun g hg => h g (List.mem_cons_of_mem _ hg)
    rcases hb with hb | hb
    · exact ih hl hb
    · have h1 := ih hl hb
      rw [evTo_xor, h f (by simp)] at h1
      have h2 : vx (vx (evTo x b n) (byteAt f.2)) (byteAt f.2) = vx (vx v (byteAt f.2)) (byteAt f.2) := by rw [h1]
      rwa [vx_cancel, vx_cancel] at h2

theorem Meets.sound {x : Nat → Vec} {n : Nat} {l : List Fct} (h : Meets x n l) : Sound l := fun v hv => by
  have := h.span hv
  rw [evTo_zero] at this
  exact this.symm

/-- A row's bits. -/
def rowBits (row : List Nat) : Nat := row.foldl (fun b j => b ||| 2 ^ j) 0

theorem rowBits_from (row : List Nat) (b : Nat) : row.foldl (fun b j => b ||| 2 ^ j) b = b ||| rowBits row := by
  induction row generalizing b with
  | nil => simp [rowBits]
  | cons j row ih =>
    show row.foldl _ (b ||| 2 ^ j) = b ||| (row.foldl _ (0 ||| 2 ^ j))
    rw [ih, ih (0 ||| 2 ^ j), Nat.zero_or, Nat.or_assoc]

theorem rowBits_cons (j : Nat) (row : List Nat) : rowBits (j :: row) = 2 ^ j ||| rowBits row := by
  show row.foldl _ (0 ||| 2 ^ j) = _
  rw [rowBits_from, Nat.zero_or]

theorem testBit_rowBits (row : List Nat) (i : Nat) : (rowBits row).testBit i = decide (i ∈ row) := by
  induction row with
  | nil => simp [rowBits]
  | cons j row ih =>
    rw [rowBits_cons, Nat.testBit_or, ih, Nat.testBit_two_pow]
    by_cases e : j = i
    · subst e; simp
    · have e' : ¬ i = j := fun h => e h.symm
      simp [e, e']

theorem rowBits_xor (j : Nat) (row : List Nat) (h : j ∉ row) : rowBits (j :: row) = 2 ^ j ^^^ rowBits row := by
  apply Nat.eq_of_testBit_eq
  intro i
  rw [rowBits_cons, Nat.testBit_or, Nat.testBit_xor, Nat.testBit_two_pow, testBit_rowBits]
  by_cases e : j = i
  · subst e; simp [h]
  · simp [e]

/-- The rows' sums, by their bits. -/
theorem evTo_row (P : List ByteArray) (z n : Nat) (hp : ∀ x ∈ P, x.size = z) (hn : P.length ≤ n) : ∀ (row : List Nat) (t : ByteArray), row.Nodup → (∀ j ∈ row, j < P.length) → t.size = z →
    byteAt (row.foldl (addAt P) t) = vx (byteAt t) (evTo (fun j => byteAt (P.getD j ByteArray.empty)) (rowBits row) n)
  | [], t, _, _, _ => by
    show byteAt t = vx (byteAt t) (evTo _ 0 n)
    rw [evTo_zero, vx_zero]
  | j :: row, t, hd, hj, ht => by
    rw [List.nodup_cons] at hd
    have hjl := hj j (by simp)
    have hps : (P.getD j ByteArray.empty).size = z := hp _ (by rw [List.getD_eq_getElem?_getD, List.getElem?_eq_getElem hjl]; exact List.getElem_mem hjl)
    simp only [List.foldl_cons]
    have ha : addAt P t j = xorB t (P.getD j ByteArray.empty) := by unfold addAt; rw [if_pos hjl]
    rw [evTo_row P z n hp hn row _ hd.2 (fun k hk => hj k (List.mem_cons_of_mem _ hk)) (addAt_size hp ht), rowBits_xor j row hd.1, evTo_xor, evTo_unit, if_pos (by omega), ha, vec_xorB (by omega), vx_assoc]

/-- The facts of a box: the rows, and what was put in. -/
def rowFacts (K M O S z : Nat) : List Fct := (List.range M).map fun i => (rowBits (rowOf K M O S i), zeroB z)

/-- What was put in, as facts. -/
def putFacts (puts : List (Nat × ByteArray)) : List Fct := puts.map fun p => (2 ^ p.1, p.2)

def boxFacts (K M O S z : Nat) (puts : List (Nat × ByteArray)) : List Fct := rowFacts K M O S z ++ putFacts puts

/-- A word meets the facts of a box that has pieces of it. -/
theorem word_meets (K M O S z : Nat) (P : List ByteArray) (puts : List (Nat × ByteArray)) (hl : P.length = K + M) (hp : ∀ x ∈ P, x.size = z) (hfit : ∀ i, i < M → sumB P (rowOf K M O S i) z = zeroB z)
    (hputs : ∀ p ∈ puts, p.1 < K + M ∧ p.2 = P.getD p.1 ByteArray.empty) : Meets (fun j => byteAt (P.getD j ByteArray.empty)) (K + M) (boxFacts K M O S z puts) := by
  intro f hf
  rcases List.mem_append.1 hf with hf | hf
  · obtain ⟨i, hi, rfl⟩ := List.mem_map.1 hf
    have hiM := List.mem_range.1 hi
    have h := evTo_row P z (K + M) hp (by omega) (rowOf K M O S i) (zeroB z) (rowOf_nodup K M O S i) (fun j hj => by have := rowOf_lt K M O S i j hj; omega) (zeroB_size z)
    have h2 : (rowOf K M O S i).foldl (addAt P) (zeroB z) = zeroB z := hfit i hiM
    rw [h2, vec_zeroB, vx_comm, vx_zero] at h
    show evTo _ (rowBits (rowOf K M O S i)) (K + M) = byteAt (zeroB z)
    rw [vec_zeroB]
    exact h.symm
  · obtain ⟨p, hpm, rfl⟩ := List.mem_map.1 hf
    obtain ⟨h1, h2⟩ := hputs p hpm
    show evTo _ (2 ^ p.1) (K + M) = byteAt p.2
    rw [evTo_unit, if_pos h1, h2]

/-- Rows alone say noughts of every sum. -/
theorem rowFacts_sound (K M O S z : Nat) : ∀ {b : Nat} {v : Vec}, SpanF (rowFacts K M O S z) b v → v = v0 := by
  intro b v h
  have hm : Meets (fun _ => v0) 0 (rowFacts K M O S z) := fun f hf => by
    obtain ⟨i, _, rfl⟩ := List.mem_map.1 hf
    show v0 = byteAt (zeroB z)
    rw [vec_zeroB]
  exact (hm.span h).symm

/-- The rows' facts are of the box's size. -/
theorem boxFacts_sized (K M O S z : Nat) (puts : List (Nat × ByteArray)) (h : ∀ p ∈ puts, p.2.size = z) : Sized z (boxFacts K M O S z puts) := by
  intro f hf
  rcases List.mem_append.1 hf with hf | hf
  · obtain ⟨i, _, rfl⟩ := List.mem_map.1 hf
    exact zeroB_size z
  · obtain ⟨p, hp, rfl⟩ := List.mem_map.1 hf
    exact h p hp

theorem boxFacts_low (K M O S z n : Nat) (puts : List (Nat × ByteArray)) (hn : K + M ≤ n) (h : ∀ p ∈ puts, p.1 < K + M) : Low n (boxFacts K M O S z puts) := by
  intro f hf j hj
  rcases List.mem_append.1 hf with hf | hf
  · obtain ⟨i, hi, rfl⟩ := List.mem_map.1 hf
    have hiM := List.mem_range.1 hi
    show (rowBits (rowOf K M O S i)).testBit j = false
    rw [testBit_rowBits, decide_eq_false_iff_not]
    intro hm
    have := rowOf_lt K M O S i j hm
    omega
  · obtain ⟨p, hp, rfl⟩ := List.mem_map.1 hf
    have := h p hp
    show (2 ^ p.1).testBit j = false
    rw [Nat.testBit_two_pow, decide_eq_false_iff_not]
    omega

/-- The rows' bits are independent: row i is the last that has piece K + i. -/
theorem rows_indep (K M O S z : Nat) : Indep ((rowFacts K M O S z).reverse.map Prod.fst) := by
  have h : ∀ n, Indep ((((List.range n).map fun i => (rowBits (rowOf K M O S i), zeroB z)).reverse).map Prod.fst) ∧ (∀ f ∈ ((((List.range n).map fun i => (rowBits (rowOf K M O S i), zeroB z)).reverse).map Prod.fst), ∀ j, K + n ≤ j → f.testBit j = false) := by
    intro n
    induction n with
    | zero => exact ⟨True.intro, fun f hf => by simp at hf⟩
    | succ n ih =>
      rw [List.range_succ, List.map_append, List.reverse_append, List.map_append]
      refine ⟨⟨fun hs => ?_, ih.1⟩, fun f hf j hj => ?_⟩
      · have h1 := sp_low _ (K + n) ih.2 hs (K + n) (Nat.le_refl _)
        have h2 : (rowBits (rowOf K M O S n)).testBit (K + n) = true := by
          rw [testBit_rowBits, decide_eq_true_eq, rowOf_head]; simp
        have h3 : (rowBits (rowOf K M O S n)).testBit (K + n) = false := h1
        rw [h2] at h3
        cases h3
      · rcases List.mem_append.1 hf with hf | hf
        · simp at hf
          subst hf
          rw [testBit_rowBits, decide_eq_false_iff_not]
          intro hm
          have := rowOf_lt K M O S n j hm
          omega
        · exact ih.2 f hf j (by omega)
  exact (h M).1

/-- The units below n. -/
def unitsTo : Nat → List Nat
  | 0 => []
  | n + 1 => 2 ^ n :: unitsTo n

theorem unitsTo_length (n : Nat) : (unitsTo n).length = n := by
  induction n with
  | zero => rfl
  | succ n ih => simp [unitsTo, ih]

theorem unitsTo_low (n : Nat) : ∀ f ∈ unitsTo n, ∀ j, n ≤ j → f.testBit j = false := by
  induction n with
  | zero => intro f hf; simp [unitsTo] at hf
  | succ n ih =>
    intro f hf j hj
    rcases List.mem_cons.1 hf with e | hf
    · subst e; rw [Nat.testBit_two_pow, decide_eq_false_iff_not]; omega
    · exact ih f hf j (by omega)

theorem unitsTo_indep (n : Nat) : Indep (unitsTo n) := by
  induction n with
  | zero => exact True.intro
  | succ n ih =>
    refine ⟨fun hs => ?_, ih⟩
    have := sp_low _ n (unitsTo_low n) hs n (Nat.le_refl _)
    rw [Nat.testBit_two_pow] at this
    simp at this

theorem unitsTo_mem (n i : Nat) : 2 ^ i ∈ unitsTo n ↔ i < n := by
  induction n with
  | zero => simp [unitsTo]
  | succ n ih =>
    simp only [unitsTo, List.mem_cons, ih]
    constructor
    · rintro (h | h)
      · have := congrArg Nat.log2 h
        rw [Nat.log2_two_pow, Nat.log2_two_pow] at this
        omega
      · omega
    · intro h
      by_cases e : i = n
      · subst e; exact Or.inl rfl
      · exact Or.inr (by omega)

/-- Whatever has no bit from n on is a sum of units. -/
theorem units_span (n : Nat) : ∀ x, (∀ j, n ≤ j → x.testBit j = false) → sp (unitsTo n) x := by
  induction n with
  | zero => intro x hx; exact Nat.eq_of_testBit_eq (fun j => by rw [hx j (Nat.zero_le _)]; simp)
  | succ n ih =>
    intro x hx
    cases hb : x.testBit n
    · exact Or.inl (ih x (fun j hj => by
        by_cases e : j = n
        · rw [e]; exact hb
        · exact hx j (by omega)))
    · refine Or.inr (ih _ (fun j hj => ?_))
      rw [Nat.testBit_xor, Nat.testBit_two_pow]
      by_cases e : j = n
      · subst e; rw [hb]; simp
      · rw [hx j (by omega)]; simp; omega

/-- The document's own count: places at which nothing follows are put in, one by one. -/
def needTo (F : List Fct) (z : Nat) : Nat → List Fct × Nat
  | 0 => (F, 0)
  | i + 1 => if (told (needTo F z i).1 (2 ^ i) z).2 then needTo F z i else ((needTo F z i).1 ++ [(2 ^ i, zeroB z)], (needTo F z i).2 + 1)

structure NeedOk (F : List Fct) (z n i : Nat) (B : List Nat) : Prop where
  sized : Sized z (needTo F z i).1
  low : Low n (needTo F z i).1
  basis : ∃ C, Indep C ∧ C.length = B.length + (needTo F z i).2 ∧ (∀ f ∈ C, sp ((needTo F z i).1.map Prod.fst) f) ∧ (∀ f ∈ (needTo F z i).1.map Prod.fst, sp C f)
  all : ∀ k, k < i → sp ((needTo F z i).1.map Prod.fst) (2 ^ k)

theorem need_ok (F : List Fct) (z n : Nat) (B : List Nat) (hn : n ≤ 40) (hs : Sized z F) (hl : Low n F) (hB : Indep B) (h1 : ∀ f ∈ B, sp (F.map Prod.fst) f) (h2 : ∀ f ∈ F.map Prod.fst, sp B f) (i : Nat) (hi : i ≤ n) : NeedOk F z n i B := by
  induction i with
  | zero => exact ⟨hs, hl, ⟨B, hB, rfl, h1, h2⟩, fun k hk => by omega⟩
  | succ i ih =>
    have h := ih (by omega)
    have hlow40 : Low 40 (needTo F z i).1 := fun f hf j hj => h.low f hf j (by omega)
    obtain ⟨ht, _, _⟩ := told_ok (needTo F z i).1 (2 ^ i) z h.sized hlow40
    cases hc : (told (needTo F z i).1 (2 ^ i) z).2
    · have he : needTo F z (i + 1) = ((needTo F z i).1 ++ [(2 ^ i, zeroB z)], (needTo F z i).2 + 1) := by simp only [needTo]; rw [hc]; rfl
      have hno : ¬ sp ((needTo F z i).1.map Prod.fst) (2 ^ i) := fun hs => by have := ht.2 hs; rw [hc] at this; cases this
      obtain ⟨C, hC, hlen, hC1, hC2⟩ := h.basis
      have hmap : ((needTo F z i).1 ++ [(2 ^ i, zeroB z)]).map Prod.fst = (needTo F z i).1.map Prod.fst ++ [2 ^ i] := by simp
      refine ⟨?_, ?_, ⟨2 ^ i :: C, ⟨fun hs => hno (sp_of hC1 hs), hC⟩, ?_, ?_, ?_⟩, ?_⟩
      · rw [he]
        intro f hf
        rcases List.mem_append.1 hf with hf | hf
        · exact h.sized f hf
        · simp at hf; subst hf; exact zeroB_size z
      · rw [he]
        intro f hf j hj
        rcases List.mem_append.1 hf with hf | hf
        · exact h.low f hf j hj
        · simp at hf; subst hf
          show (2 ^ i).testBit j = false
          rw [Nat.testBit_two_pow, decide_eq_false_iff_not]; omega
      · rw [he]; simp [hlen]; omega
      · rw [he]
        intro f hf
        show sp (((needTo F z i).1 ++ [(2 ^ i, zeroB z)]).map Prod.fst) f
        rw [hmap]
        rcases List.mem_cons.1 hf with e | hf
        · subst e; exact sp_mem (by simp)
        · exact sp_sub (fun x hx => List.mem_append_left _ hx) (hC1 f hf)
      · rw [he]
        intro f hf
        have hf' : f ∈ ((needTo F z i).1 ++ [(2 ^ i, zeroB z)]).map Prod.fst := hf
        rw [hmap] at hf'
        rcases List.mem_append.1 hf' with hf' | hf'
        · exact Or.inl (hC2 f hf')
        · simp at hf'; subst hf'; exact sp_mem (by simp)
      · intro k hk
        rw [he]
        show sp (((needTo F z i).1 ++ [(2 ^ i, zeroB z)]).map Prod.fst) (2 ^ k)
        rw [hmap]
        by_cases e : k = i
        · subst e; exact sp_mem (by simp)
        · exact sp_sub (fun x hx => List.mem_append_left _ hx) (h.all k (by omega))
    · have he : needTo F z (i + 1) = needTo F z i := by simp only [needTo]; rw [hc]; rfl
      refine ⟨by rw [he]; exact h.sized, by rw [he]; exact h.low, by rw [he]; exact h.basis, fun k hk => ?_⟩
      rw [he]
      by_cases e : k = i
      · subst e; exact ht.1 hc
      · exact h.all k (by omega)

/-- HOW MANY ARE MISSING: as many as there are places, less the independent facts. -/
theorem need_count (F : List Fct) (z n : Nat) (B : List Nat) (hn : n ≤ 40) (hs : Sized z F) (hl : Low n F) (hB : Indep B) (h1 : ∀ f ∈ B, sp (F.map Prod.fst) f) (h2 : ∀ f ∈ F.map Prod.fst, sp B f) : (needTo F z n).2 + B.length = n := by
  have h := need_ok F z n B hn hs hl hB h1 h2 n (Nat.le_refl _)
  obtain ⟨C, hC, hlen, hC1, hC2⟩ := h.basis
  have h3 : C.length = (unitsTo n).length := by
    refine indep_eq hC (unitsTo_indep n) (fun f hf => ?_) (fun f hf => ?_)
    · exact units_span n f (sp_low _ n (fun g hg j hj => by
        obtain ⟨x, hx, rfl⟩ := List.mem_map.1 hg
        exact h.low x hx j hj) (hC1 f hf))
    · have hall : ∀ m, m ≤ n → ∀ f ∈ unitsTo m, sp C f := by
        intro m
        induction m with
        | zero => intro _ f hf; simp [unitsTo] at hf
        | succ m ih =>
          intro hm f hf
          rcases List.mem_cons.1 hf with e | hf
          · subst e; exact sp_of hC2 (h.all m (by omega))
          · exact ih (by omega) f hf
      exact hall n (Nat.le_refl _) f hf
  rw [unitsTo_length] at h3
  omega

end Go.Proofs.YtnjaofkieajnlaaGreat
