/- Texts of the proof, part 3. -/
import Derived.Test.YtnjaofkieajnlaaGreatAlluptoG1

/- The program's boxes as plain mathematics: what is known by its highest data, how it is taken away, what follows. Nothing of the program. -/
namespace Go.Proofs.YtnjaofkieajnlaaGreat

/-- What is known, at j a sum whose highest data is j (of no data: nothing). -/
abbrev Kn := Nat → Fct

def kn0 : Kn := fun _ => (0, ByteArray.empty)

/-- One known sum is taken away. -/
def woStep (kn : Kn) (j : Nat) (st : Fct) : Fct := if st.1.testBit j = true ∧ (kn j).1 ≠ 0 then (st.1 ^^^ (kn j).1, xorB st.2 (kn j).2) else st

/-- The known sums below n are taken away, from the highest on. -/
def wo (kn : Kn) : Nat → Fct → Fct
  | 0, st => st
  | n + 1, st => wo kn n (woStep kn n st)

/-- The known sums below n, the highest first. -/
def KB (kn : Kn) : Nat → List Fct
  | 0 => []
  | n + 1 => if (kn n).1 = 0 then KB kn n else kn n :: KB kn n

theorem KB_succ (kn : Kn) (n : Nat) : KB kn (n + 1) = if (kn n).1 = 0 then KB kn n else kn n :: KB kn n := rfl

/-- Each known sum's highest data is its own, below K; its piece is of the size. -/
def KnOk (K z : Nat) (kn : Kn) : Prop := ∀ j, (kn j).1 = 0 ∨ (j < K ∧ (kn j).1.testBit j = true ∧ (∀ i, j < i → (kn j).1.testBit i = false) ∧ (kn j).2.size = z)

theorem kn0_ok (K z : Nat) : KnOk K z kn0 := fun _ => Or.inl rfl

theorem KnOk.log {K z : Nat} {kn : Kn} (h : KnOk K z kn) {j : Nat} (hj : (kn j).1 ≠ 0) : j < K ∧ (kn j).1.testBit j = true ∧ (∀ i, j < i → (kn j).1.testBit i = false) ∧ (kn j).2.size = z ∧ (kn j).1.log2 = j := by
  rcases h j with h0 | ⟨h1, h2, h3, h4⟩
  · exact absurd h0 hj
  · exact ⟨h1, h2, h3, h4, (log2_of h2 h3).2⟩

theorem KnOk.lt {K z : Nat} {kn : Kn} (h : KnOk K z kn) (hK : K ≤ 20) (j : Nat) : (kn j).1 < 1048576 := by
  by_cases h0 : (kn j).1 = 0
  · rw [h0]; decide
  · obtain ⟨h1, _, h3, _⟩ := h.log h0
    have : (kn j).1 < 2 ^ 20 := Nat.lt_pow_two_of_testBit _ (fun i hi => h3 i (by omega))
    omega

theorem KB_mem {kn : Kn} {n : Nat} {f : Fct} (hf : f ∈ KB kn n) : ∃ j, j < n ∧ f = kn j ∧ (kn j).1 ≠ 0 := by
  induction n with
  | zero => simp [KB] at hf
  | succ n ih =>
    unfold KB at hf
    by_cases h0 : (kn n).1 = 0
    · rw [if_pos h0] at hf
      obtain ⟨j, hj, h⟩ := ih hf
      exact ⟨j, by omega, h⟩
    · rw [if_neg h0] at hf
      rcases List.mem_cons.1 hf with e | hf
      · exact ⟨n, by omega, e, h0⟩
      · obtain ⟨j, hj, h⟩ := ih hf
        exact ⟨j, by omega, h⟩

theorem KB_has {kn : Kn} {n j : Nat} (hj : j < n) (h : (kn j).1 ≠ 0) : kn j ∈ KB kn n := by
  induction n with
  | zero => omega
  | succ n ih =>
    unfold KB
    by_cases e : j = n
    · subst e; rw [if_neg h]; simp
    · have := ih (by omega)
      by_cases h0 : (kn n).1 = 0
      · rw [if_pos h0]; exact this
      · rw [if_neg h0]; exact List.mem_cons_of_mem _ this

theorem Ech.up {n n' m : Nat} {E : List Fct} (h : Ech n E m) (hn : n ≤ n') : Ech n' E m := by
  cases E with
  | nil => have : m ≤ n := h
           show m ≤ n'; omega
  | cons f E => obtain ⟨b, hb, r⟩ := h
                exact ⟨b, by omega, r⟩

theorem KB_ech {K z : Nat} {kn : Kn} (h : KnOk K z kn) (n : Nat) : Ech n (KB kn n) 0 := by
  induction n with
  | zero => exact Nat.le_refl _
  | succ n ih =>
    unfold KB
    by_cases h0 : (kn n).1 = 0
    · rw [if_pos h0]; exact ih.up (by omega)
    · rw [if_neg h0]
      obtain ⟨_, h2, h3, _⟩ := h.log h0
      exact ⟨n, by omega, h2, h3, ih⟩

theorem KB_sized {K z : Nat} {kn : Kn} (h : KnOk K z kn) (n : Nat) : Sized z (KB kn n) := by
  intro f hf
  obtain ⟨j, _, rfl, h0⟩ := KB_mem hf
  exact (h.log h0).2.2.2.1

theorem wo_tell {K z : Nat} {kn : Kn} (h : KnOk K z kn) : ∀ (n : Nat) (st : Fct), wo kn n st = tell (KB kn n) st
  | 0, _ => rfl
  | n + 1, st => by
    show wo kn n (woStep kn n st) = _
    rw [wo_tell h n, KB_succ]
    by_cases h0 : (kn n).1 = 0
    · rw [if_pos h0]
      unfold woStep
      rw [if_neg (fun x => x.2 h0)]
    · rw [if_neg h0]
      show _ = tell (KB kn n) (tellStep st (kn n))
      congr 1
      unfold woStep tellStep
      rw [(h.log h0).2.2.2.2]
      by_cases hb : st.1.testBit n = true
      · rw [if_pos ⟨hb, h0⟩, if_pos ⟨h0, hb⟩]
      · rw [if_neg (fun x => hb x.1), if_neg (fun x => hb x.2)]

theorem ech_sound {n m : Nat} {E : List Fct} (h : Ech n E m) : Sound E := by
  induction E generalizing n with
  | nil => intro v hv; exact hv.2
  | cons g E ih =>
    obtain ⟨b, hb, h1, h2, he⟩ := h
    refine (ih he).add g (fun hs => ?_)
    have := sp_low _ b (ech_low he) hs b (Nat.le_refl _)
    rw [h1] at this
    cases this

/-- All the known sums. -/
abbrev KA (kn : Kn) : List Fct := KB kn 20

/-- What is left of some data's sum. -/
def left (kn : Kn) (x : Nat) (p : ByteArray) : Fct := wo kn 20 (x, p)

structure Left (K z : Nat) (kn : Kn) (x : Nat) (p : ByteArray) : Prop where
  span : SpanF (KA kn) (x ^^^ (left kn x p).1) (vx (byteAt p) (byteAt (left kn x p).2))
  size : (left kn x p).2.size = z
  free : ∀ j, j < 20 → (kn j).1 ≠ 0 → (left kn x p).1.testBit j = false
  low : ∀ n, K ≤ n → x < 2 ^ n → (left kn x p).1 < 2 ^ n
  zero : (left kn x p).1 = 0 ↔ sp ((KA kn).map Prod.fst) x

theorem left_ok {K z : Nat} {kn : Kn} (h : KnOk K z kn) (x : Nat) (p : ByteArray) (hp : p.size = z) : Left K z kn x p := by
  have hech := KB_ech h 20
  obtain ⟨h1, h2, h3, h4⟩ := tell_ok z (KA kn) 20 0 (x, p) hech (KB_sized h 20) hp
  have hw : wo kn 20 (x, p) = tell (KA kn) (x, p) := wo_tell h 20 _
  refine ⟨?_, ?_, ?_, ?_, ?_⟩
  · unfold left; rw [hw]; exact h1
  · unfold left; rw [hw]; exact h2
  · unfold left; rw [hw]
    intro j hj h0
    have := h3 (kn j) (KB_has hj h0)
    rwa [(h.log h0).2.2.2.2] at this
  · intro n hn hx
    unfold left; rw [hw]
    have hs : sp ((KA kn).map Prod.fst) (x ^^^ (tell (KA kn) (x, p)).1) := (sp_iff _ _).2 ⟨_, h1⟩
    have hl := sp_low _ n (fun f hf j hj => by
      obtain ⟨g, hg, rfl⟩ := List.mem_map.1 hf
      obtain ⟨i, hi, rfl, h0⟩ := KB_mem hg
      have := h.log h0
      exact this.2.2.1 j (by omega)) hs
    refine Nat.lt_pow_two_of_testBit _ (fun i hi => ?_)
    have h5 := hl i hi
    rw [Nat.testBit_xor, Nat.testBit_lt_two_pow (Nat.lt_of_lt_of_le hx (Nat.pow_le_pow_right (by omega) hi)), Bool.false_xor] at h5
    exact h5
  · unfold left; rw [hw]
    constructor
    · intro h0
      rw [h0] at h1
      have h1' : SpanF (KA kn) (x ^^^ 0) _ := h1
      rw [Nat.xor_zero] at h1'
      exact (sp_iff _ _).2 ⟨_, h1'⟩
    · intro hs
      have h6 := (sp_iff _ _).2 ⟨_, h1⟩
      have h7 := sp_xor hs h6
      have h8 : sp ((KA kn).map Prod.fst) (tell (KA kn) (x, p)).1 := by
        rw [← Nat.xor_assoc, Nat.xor_self, Nat.zero_xor] at h7
        exact h7
      exact ech_zero hech h8 h3

/-- Behind a piece that was put in. -/
def putK (kn : Kn) (x : Nat) (p : ByteArray) : Kn := if (left kn x p).1 = 0 then kn else fun j => if j = (left kn x p).1.log2 then left kn x p else kn j

theorem top_of {x : Nat} (h : x ≠ 0) : x.testBit x.log2 = true ∧ ∀ j, x.log2 < j → x.testBit j = false :=
  ⟨Nat.testBit_log2 h, fun j hj => Nat.testBit_lt_two_pow (Nat.lt_of_lt_of_le Nat.lt_log2_self (Nat.pow_le_pow_right (by omega) hj))⟩

theorem left_top {K z : Nat} {kn : Kn} (h : KnOk K z kn) (hK : K ≤ 20) {x : Nat} {p : ByteArray} (hp : p.size = z) (hx : x < 2 ^ K) (h0 : (left kn x p).1 ≠ 0) : (left kn x p).1.log2 < K ∧ (kn (left kn x p).1.log2).1 = 0 := by
  have hl := left_ok h x p hp
  have hlt := hl.low K (Nat.le_refl _) hx
  have h1 : (left kn x p).1.log2 < K := (Nat.log2_lt h0).2 hlt
  refine ⟨h1, ?_⟩
  by_cases hk : (kn (left kn x p).1.log2).1 = 0
  · exact hk
  · have h2 := hl.free _ (by omega) hk
    rw [(top_of h0).1] at h2
    cases h2

theorem putK_ok {K z : Nat} {kn : Kn} (h : KnOk K z kn) (hK : K ≤ 20) {x : Nat} {p : ByteArray} (hp : p.size = z) (hx : x < 2 ^ K) : KnOk K z (putK kn x p) := by
  unfold putK
  by_cases h0 : (left kn x p).1 = 0
  · rw [if_pos h0]; exact h
  · rw [if_neg h0]
    intro j
    by_cases e : j = (left kn x p).1.log2
    · simp only [if_pos e]
      obtain ⟨t1, t2⟩ := top_of h0
      exact Or.inr ⟨by rw [e]; exact (left_top h hK hp hx h0).1, by rw [e]; exact t1, by rw [e]; exact t2, (left_ok h x p hp).size⟩
    · simp only [if_neg e]; exact h j

/-- How many are missing. -/
def openK (kn : Kn) : Nat → Nat
  | 0 => 0
  | n + 1 => openK kn n + if (kn n).1 = 0 then 1 else 0

theorem openK_succ (kn : Kn) (n : Nat) : openK kn (n + 1) = openK kn n + if (kn n).1 = 0 then 1 else 0 := rfl

theorem openK_le (kn : Kn) (n : Nat) : openK kn n ≤ n := by
  induction n with
  | zero => exact Nat.le_refl _
  | succ n ih => unfold openK; split <;> omega

theorem openK_KB (kn : Kn) (n : Nat) : openK kn n + (KB kn n).length = n := by
  induction n with
  | zero => rfl
  | succ n ih =>
    unfold openK KB
    by_cases h : (kn n).1 = 0
    · rw [if_pos h, if_pos h]; omega
    · rw [if_neg h, if_neg h, List.length_cons]; omega

theorem openK_kn0 (n : Nat) : openK kn0 n = n := by
  induction n with
  | zero => rfl
  | succ n ih => show openK kn0 n + 1 = n + 1; rw [ih]

theorem openK_set (kn : Kn) (t : Nat) (f : Fct) (hf : f.1 ≠ 0) (h0 : (kn t).1 = 0) (n : Nat) : openK (fun j => if j = t then f else kn j) n + (if t < n then 1 else 0) = openK kn n := by
  induction n with
  | zero => rfl
  | succ n ih =>
    rw [openK_succ, openK_succ]
    by_cases e : n = t
    · subst e
      rw [if_neg (Nat.lt_irrefl _)] at ih
      simp only [if_true, if_neg hf, if_pos h0, if_pos (Nat.lt_succ_self n)]
      omega
    · simp only [if_neg e]
      by_cases l : t < n
      · rw [if_pos l] at ih; rw [if_pos (show t < n + 1 from by omega)]; omega
      · rw [if_neg l] at ih; rw [if_neg (show ¬ t < n + 1 from by omega)]; omega

theorem openK_put {K z : Nat} {kn : Kn} (h : KnOk K z kn) (hK : K ≤ 20) {x : Nat} {p : ByteArray} (hp : p.size = z) (hx : x < 2 ^ K) (h0 : (left kn x p).1 ≠ 0) : openK (putK kn x p) K + 1 = openK kn K := by
  obtain ⟨h1, h2⟩ := left_top h hK hp hx h0
  have := openK_set kn _ (left kn x p) h0 h2 K
  rw [if_pos h1] at this
  unfold putK
  rw [if_neg h0]
  exact this

theorem KB_above {K z : Nat} {kn : Kn} (h : KnOk K z kn) (n : Nat) (hn : K ≤ n) : KB kn n = KB kn K := by
  induction n with
  | zero => have : K = 0 := by omega
            rw [this]
  | succ n ih =>
    by_cases e : K = n + 1
    · rw [e]
    · rw [KB_succ]
      have h0 : (kn n).1 = 0 := by
        rcases h n with h0 | h1
        · exact h0
        · omega
      rw [if_pos h0]
      exact ih (by omega)

/-- What was known is so still. -/
theorem putK_keeps {K z : Nat} {kn : Kn} (h : KnOk K z kn) (hK : K ≤ 20) {x : Nat} {p : ByteArray} (hp : p.size = z) (hx : x < 2 ^ K) {b : Nat} {v : Vec} (hs : SpanF (KA kn) b v) : SpanF (KA (putK kn x p)) b v := by
  refine SpanF_of (fun f hf => ?_) hs
  obtain ⟨j, hj, rfl, hj0⟩ := KB_mem hf
  unfold putK
  by_cases h0 : (left kn x p).1 = 0
  · rw [if_pos h0]; exact SpanF_mem hf
  · rw [if_neg h0]
    have hne : j ≠ (left kn x p).1.log2 := fun e => hj0 (by rw [e]; exact (left_top h hK hp hx h0).2)
    have hm : (fun i => if i = (left kn x p).1.log2 then left kn x p else kn i) j ∈ KA (fun i => if i = (left kn x p).1.log2 then left kn x p else kn i) := KB_has hj (by simp only [if_neg hne]; exact hj0)
    simp only [if_neg hne] at hm
    exact SpanF_mem hm

/-- A piece that did not follow, or that does, follows behind it. -/
theorem putK_has {K z : Nat} {kn : Kn} (h : KnOk K z kn) (hK : K ≤ 20) {x : Nat} {p : ByteArray} (hp : p.size = z) (hx : x < 2 ^ K) (h0 : (left kn x p).1 = 0 → (left kn x p).2 = zeroB z) : SpanF (KA (putK kn x p)) x (byteAt p) := by
  have hl := left_ok h x p hp
  have h1 := putK_keeps h hK hp hx hl.span
  by_cases e : (left kn x p).1 = 0
  · rw [e, Nat.xor_zero, h0 e, vec_zeroB, vx_zero] at h1
    exact h1
  · have hm : SpanF (KA (putK kn x p)) (left kn x p).1 (byteAt (left kn x p).2) := by
      unfold putK
      rw [if_neg e]
      have ht := left_top h hK hp hx e
      have hm : (fun i => if i = (left kn x p).1.log2 then left kn x p else kn i) (left kn x p).1.log2 ∈ KA (fun i => if i = (left kn x p).1.log2 then left kn x p else kn i) := KB_has (by omega) (by simp only [if_true]; exact e)
      simp only [if_true] at hm
      exact SpanF_mem hm
    have h2 := SpanF_xor h1 hm
    rw [xor_cancel, vx_cancel] at h2
    exact h2

/-- Whatever is known behind a put was known or is what was put in. -/
theorem putK_back {K z : Nat} {kn : Kn} (h : KnOk K z kn) {x : Nat} {p : ByteArray} (hp : p.size = z) {G : List Fct} (hG : ∀ f ∈ KA kn, SpanF G f.1 (byteAt f.2)) (hx : SpanF G x (byteAt p)) : ∀ f ∈ KA (putK kn x p), SpanF G f.1 (byteAt f.2) := by
  have hl := left_ok h x p hp
  have h1 := SpanF_xor hx (SpanF_of hG hl.span)
  rw [← Nat.xor_assoc, Nat.xor_self, Nat.zero_xor, ← vx_assoc, vx_self, vx_comm, vx_zero] at h1
  intro f hf
  unfold putK at hf
  by_cases e : (left kn x p).1 = 0
  · rw [if_pos e] at hf; exact hG f hf
  · rw [if_neg e] at hf
    obtain ⟨j, hj, rfl, hj0⟩ := KB_mem hf
    by_cases ej : j = (left kn x p).1.log2
    · simp only [if_pos ej]; exact h1
    · simp only [if_neg ej] at hj0 ⊢
      exact hG _ (KB_has hj hj0)

/-- All follow just where none is missing. -/
theorem open_none {K z : Nat} {kn : Kn} (h : KnOk K z kn) (hK : K ≤ 20) (h0 : openK kn K = 0) {x : Nat} (hx : x < 2 ^ K) : sp ((KA kn).map Prod.fst) x := by
  have hech := KB_ech h 20
  have hlen := openK_KB kn K
  rw [h0, Nat.zero_add] at hlen
  have hA : KA kn = KB kn K := KB_above h 20 hK
  by_cases hs : sp ((KA kn).map Prod.fst) x
  · exact hs
  · have hi : Indep (x :: (KA kn).map Prod.fst) := ⟨hs, ech_indep hech⟩
    have := indep_le (unitsTo K) _ hi (fun f hf => units_span K f (by
      rcases List.mem_cons.1 hf with e | hf
      · subst e; exact fun j hj => Nat.testBit_lt_two_pow (Nat.lt_of_lt_of_le hx (Nat.pow_le_pow_right (by omega) hj))
      · rw [hA] at hf; exact fun j hj => ech_low (KB_ech h K) f hf j hj))
    rw [unitsTo_length, List.length_cons, List.length_map, hA, hlen] at this
    omega

theorem open_some {K z : Nat} {kn : Kn} (h : KnOk K z kn) (hK : K ≤ 20) (hall : ∀ j, j < K → sp ((KA kn).map Prod.fst) (2 ^ j)) : openK kn K = 0 := by
  have hlen := openK_KB kn K
  have hA : KA kn = KB kn K := KB_above h 20 hK
  have hu : ∀ m, m ≤ K → ∀ f ∈ unitsTo m, sp ((KA kn).map Prod.fst) f := by
    intro m
    induction m with
    | zero => intro _ f hf; simp [unitsTo] at hf
    | succ m ih =>
      intro hm f hf
      rcases List.mem_cons.1 hf with e | hf
      · subst e; exact hall m (by omega)
      · exact ih (by omega) f hf
  have := indep_le _ (unitsTo K) (unitsTo_indep K) (hu K (Nat.le_refl _))
  rw [unitsTo_length, List.length_map, hA] at this
  omega

end Go.Proofs.YtnjaofkieajnlaaGreat

/- Of which data each piece is the sum; the document's facts against the program's known sums. Nothing of the program. -/
namespace Go.Proofs.YtnjaofkieajnlaaGreat

/-- The sum of a table's numbers at some places. -/
def xfold (T : Nat → Nat) (row : List Nat) : Nat := row.foldl (fun b n => b ^^^ T n) 0

theorem xfold_from (T : Nat → Nat) (row : List Nat) (b : Nat) : row.foldl (fun b n => b ^^^ T n) b = b ^^^ xfold T row := by
  induction row generalizing b with
  | nil => simp [xfold]
  | cons n row ih =>
    show row.foldl _ (b ^^^ T n) = b ^^^ (row.foldl _ (0 ^^^ T n))
    rw [ih, ih (0 ^^^ T n), Nat.zero_xor, Nat.xor_assoc]

theorem xfold_cons (T : Nat → Nat) (n : Nat) (row : List Nat) : xfold T (n :: row) = T n ^^^ xfold T row := by
  show row.foldl _ (0 ^^^ T n) = _
  rw [xfold_from, Nat.zero_xor]

theorem xfold_congr {T U : Nat → Nat} {row : List Nat} (h : ∀ n ∈ row, T n = U n) : xfold T row = xfold U row := by
  induction row with
  | nil => rfl
  | cons n row ih => rw [xfold_cons, xfold_cons, h n (by simp), ih (fun k hk => h k (List.mem_cons_of_mem _ hk))]

theorem xfold_snoc (T : Nat → Nat) (row : List Nat) (n : Nat) : xfold T (row ++ [n]) = xfold T row ^^^ T n := by
  unfold xfold; rw [List.foldl_append]; rfl

theorem xfold_lt {T : Nat → Nat} {K : Nat} {row : List Nat} (h : ∀ n, T n < 2 ^ K) : xfold T row < 2 ^ K := by
  induction row with
  | nil => exact Nat.two_pow_pos K
  | cons n row ih => rw [xfold_cons]; exact Nat.xor_lt_two_pow (h n) ih

/-- The sum of the pieces of a row that stand ahead of its last, as far as place k. -/
def ofRow (T : Nat → Nat) (last : Nat) (row : List Nat) : Nat := row.foldl (fun b n => if n < last then b ^^^ T n else b) 0

theorem ofRow_take (T : Nat → Nat) (last : Nat) (row : List Nat) (k : Nat) (h : k < row.length) : ofRow T last (row.take (k + 1)) = if row.getD k 0 < last then ofRow T last (row.take k) ^^^ T (row.getD k 0) else ofRow T last (row.take k) := by
  unfold ofRow
  rw [List.take_succ_eq_append_getElem h, List.foldl_append, List.getD_eq_getElem?_getD, List.getElem?_eq_getElem h]; rfl

theorem ofRow_lt {T : Nat → Nat} {K last : Nat} {row : List Nat} (h : ∀ n, T n < 2 ^ K) : ofRow T last row < 2 ^ K := by
  have : ∀ (row : List Nat) (b : Nat), b < 2 ^ K → row.foldl (fun b n => if n < last then b ^^^ T n else b) b < 2 ^ K := by
    intro row
    induction row with
    | nil => intro b hb; exact hb
    | cons n row ih =>
      intro b hb
      simp only [List.foldl_cons]
      refine ih _ ?_
      split
      · exact Nat.xor_lt_two_pow hb (h n)
      · exact hb
  exact this row 0 (Nat.two_pow_pos K)

theorem ofRow_head (T : Nat → Nat) (last : Nat) (head : List Nat) (h : ∀ n ∈ head, n < last) : ofRow T last (head ++ [last]) = xfold T head := by
  unfold ofRow xfold
  rw [List.foldl_append]
  simp only [List.foldl_cons, List.foldl_nil, Nat.lt_irrefl, if_false]
  have : ∀ (row : List Nat) (b : Nat), (∀ n ∈ row, n < last) → row.foldl (fun b n => if n < last then b ^^^ T n else b) b = row.foldl (fun b n => b ^^^ T n) b := by
    intro row
    induction row with
    | nil => intro b _; rfl
    | cons n row ih =>
      intro b hb
      simp only [List.foldl_cons, if_pos (hb n (by simp))]
      exact ih _ (fun k hk => hb k (List.mem_cons_of_mem _ hk))
  exact this head 0 h

/-- Of which data each piece is the sum, the first i rows being done. -/
def ofTo (K M O S : Nat) : Nat → Nat → Nat
  | 0 => fun j => if j < K then 2 ^ j else 0
  | i + 1 => fun j => if j = K + i then ofRow (ofTo K M O S i) (K + i) (rowOf K M O S i) else ofTo K M O S i j

def ofs (K M O S : Nat) : Nat → Nat := ofTo K M O S M

theorem ofTo_lt (K M O S i j : Nat) : ofTo K M O S i j < 2 ^ K := by
  induction i generalizing j with
  | zero =>
    show (if j < K then 2 ^ j else 0) < 2 ^ K
    split
    · exact Nat.pow_lt_pow_right (by omega) (by assumption)
    · exact Nat.two_pow_pos K
  | succ i ih =>
    show (if j = K + i then ofRow (ofTo K M O S i) (K + i) (rowOf K M O S i) else ofTo K M O S i j) < 2 ^ K
    split
    · exact ofRow_lt ih
    · exact ih j

theorem ofTo_above (K M O S i j : Nat) (h : K + i ≤ j) : ofTo K M O S i j = 0 := by
  induction i with
  | zero => show (if j < K then 2 ^ j else 0) = 0
            rw [if_neg (by omega)]
  | succ i ih =>
    show (if j = K + i then _ else ofTo K M O S i j) = 0
    rw [if_neg (by omega)]; exact ih (by omega)

theorem ofTo_keeps (K M O S i n j : Nat) (h : i ≤ n) (hj : j < K + i) : ofTo K M O S n j = ofTo K M O S i j := by
  induction n with
  | zero => have : i = 0 := by omega
            rw [this]
  | succ n ih =>
    by_cases e : i = n + 1
    · rw [e]
    · show (if j = K + n then _ else ofTo K M O S n j) = _
      rw [if_neg (by omega)]; exact ih (by omega)

theorem ofs_lt (K M O S j : Nat) : ofs K M O S j < 2 ^ K := ofTo_lt K M O S M j

theorem ofs_data (K M O S j : Nat) (h : j < K) : ofs K M O S j = 2 ^ j := by
  unfold ofs
  rw [ofTo_keeps K M O S 0 M j (Nat.zero_le _) (by omega)]
  show (if j < K then 2 ^ j else 0) = _
  rw [if_pos h]

theorem ofs_spare (K M O S i : Nat) (h : i < M) : ofs K M O S (K + i) = xfold (ofs K M O S) (rowHead K M O S i) := by
  have h1 : ofs K M O S (K + i) = ofTo K M O S (i + 1) (K + i) := ofTo_keeps K M O S (i + 1) M (K + i) (by omega) (by omega)
  rw [h1]
  show (if K + i = K + i then ofRow (ofTo K M O S i) (K + i) (rowOf K M O S i) else _) = _
  rw [if_pos rfl, rowOf_head, ofRow_head _ _ _ (rowHead_lt K M O S i)]
  exact xfold_congr (fun n hn => (ofTo_keeps K M O S i M n (by omega) (rowHead_lt K M O S i n hn)).symm)

theorem rowBits_snoc (row : List Nat) (a : Nat) (h : a ∉ row) : rowBits (row ++ [a]) = rowBits row ^^^ 2 ^ a := by
  apply Nat.eq_of_testBit_eq
  intro i
  rw [testBit_rowBits, Nat.testBit_xor, Nat.testBit_two_pow, testBit_rowBits]
  by_cases e : a = i
  · subst e; simp [h]
  · have e' : ¬ i = a := fun h => e h.symm
    simp [e, e']

theorem span_row {R : List Fct} {T : Nat → Nat} : ∀ (row : List Nat), row.Nodup → (∀ n ∈ row, SpanF R (2 ^ n ^^^ T n) v0) → SpanF R (rowBits row ^^^ xfold T row) v0
  | [], _, _ => by show SpanF R (0 ^^^ 0) v0; rw [Nat.xor_self]; exact SpanF_zero R
  | n :: row, hd, h => by
    rw [List.nodup_cons] at hd
    have h1 := span_row row hd.2 (fun k hk => h k (List.mem_cons_of_mem _ hk))
    have h2 := SpanF_xor (h n (by simp)) h1
    rw [vx_zero] at h2
    rw [rowBits_xor n row hd.1, xfold_cons]
    have e : 2 ^ n ^^^ rowBits row ^^^ (T n ^^^ xfold T row) = 2 ^ n ^^^ T n ^^^ (rowBits row ^^^ xfold T row) := by
      rw [← Nat.xor_assoc, xor_swap (2 ^ n) (rowBits row) (T n), Nat.xor_assoc]
    rw [e]; exact h2

/-- A place and the data whose sum it is are alike by the rows. -/
theorem unit_of (K M O S z : Nat) (j : Nat) (hj : j < K + M) : SpanF (rowFacts K M O S z) (2 ^ j ^^^ ofs K M O S j) v0 := by
  induction j using Nat.strongRecOn with
  | _ j ih =>
    by_cases h : j < K
    · rw [ofs_data K M O S j h, Nat.xor_self]; exact SpanF_zero _
    · obtain ⟨i, rfl⟩ : ∃ i, j = K + i := ⟨j - K, by omega⟩
      have hi : i < M := by omega
      have hm : SpanF (rowFacts K M O S z) (rowBits (rowOf K M O S i)) v0 := by
        have := SpanF_mem (l := rowFacts K M O S z) (f := (rowBits (rowOf K M O S i), zeroB z)) (List.mem_map.2 ⟨i, List.mem_range.2 hi, rfl⟩)
        rw [show byteAt (rowBits (rowOf K M O S i), zeroB z).2 = v0 from vec_zeroB z] at this
        exact this
      have hnd := rowOf_nodup K M O S i
      rw [rowOf_head] at hnd
      have hhd : (rowHead K M O S i).Nodup := (List.nodup_append.1 hnd).1
      have hlt := rowHead_lt K M O S i
      have hno : K + i ∉ rowHead K M O S i := fun hh => by have := hlt _ hh; omega
      have h1 := span_row (R := rowFacts K M O S z) (T := ofs K M O S) (rowHead K M O S i) hhd (fun n hn => by have := hlt n hn; exact ih n this (by omega))
      have h2 := SpanF_xor hm h1
      rw [vx_zero, rowOf_head, rowBits_snoc _ _ hno, ← ofs_spare K M O S i hi] at h2
      have e : rowBits (rowHead K M O S i) ^^^ 2 ^ (K + i) ^^^ (rowBits (rowHead K M O S i) ^^^ ofs K M O S (K + i)) = 2 ^ (K + i) ^^^ ofs K M O S (K + i) := by
        rw [Nat.xor_comm (rowBits _) (2 ^ (K + i)), ← Nat.xor_assoc, xor_cancel]
      rw [e] at h2
      exact h2

/-- Places' bits as the data whose sum they are. -/
def phiTo (T : Nat → Nat) (b : Nat) : Nat → Nat
  | 0 => 0
  | n + 1 => if b.testBit n then phiTo T b n ^^^ T n else phiTo T b n

theorem phiTo_xor (T : Nat → Nat) (a b n : Nat) : phiTo T (a ^^^ b) n = phiTo T a n ^^^ phiTo T b n := by
  induction n with
  | zero => exact (Nat.xor_self 0).symm
  | succ n ih =>
    simp only [phiTo, Nat.testBit_xor, ih]
    cases a.testBit n <;> cases b.testBit n
    · simp
    · simp [Nat.xor_assoc]
    · simp only [Bool.xor_false, if_true, Bool.false_eq_true, if_false]; rw [xor_swap]
    · simp only [Bool.xor_self, Bool.false_eq_true, if_false, if_true]
      rw [Nat.xor_assoc, Nat.xor_comm (T n), ← Nat.xor_assoc, ← Nat.xor_assoc, xor_cancel]

theorem phiTo_zero (T : Nat → Nat) (n : Nat) : phiTo T 0 n = 0 := by
  induction n with
  | zero => rfl
  | succ n ih => simp [phiTo, ih]

theorem phiTo_unit (T : Nat → Nat) (i n : Nat) : phiTo T (2 ^ i) n = if i < n then T i else 0 := by
  induction n with
  | zero => rfl
  | succ n ih =>
    simp only [phiTo, ih, Nat.testBit_two_pow]
    by_cases e : i = n
    · subst e
      simp only [decide_true, if_true, Nat.lt_irrefl, if_false]
      rw [if_pos (by omega), Nat.zero_xor]
    · simp only [e, decide_false, Bool.false_eq_true, if_false]
      by_cases h : i < n
      · rw [if_pos h, if_pos (by omega)]
      · rw [if_neg h, if_neg (by omega)]

theorem phi_row (T : Nat → Nat) (n : Nat) : ∀ (row : List Nat), row.Nodup → (∀ j ∈ row, j < n) → phiTo T (rowBits row) n = xfold T row
  | [], _, _ => phiTo_zero T n
  | j :: row, hd, hl => by
    rw [List.nodup_cons] at hd
    rw [rowBits_xor j row hd.1, phiTo_xor, phiTo_unit, if_pos (hl j (by simp)), phi_row T n row hd.2 (fun k hk => hl k (List.mem_cons_of_mem _ hk)), xfold_cons]

theorem phi_rowOf (K M O S i : Nat) (hi : i < M) : phiTo (ofs K M O S) (rowBits (rowOf K M O S i)) (K + M) = 0 := by
  rw [phi_row _ _ _ (rowOf_nodup K M O S i) (fun j hj => by have := rowOf_lt K M O S i j hj; omega), rowOf_head, xfold_snoc, ← ofs_spare K M O S i hi, Nat.xor_self]

/-- The document's box and the program's, side by side. -/
structure Rel (K M O S z : Nat) (kn : Kn) (ps : List (Nat × ByteArray)) : Prop where
  ok : KnOk K z kn
  inn : ∀ p ∈ ps, p.1 < K + M ∧ p.2.size = z
  to : ∀ p ∈ ps, SpanF (KA kn) (ofs K M O S p.1) (byteAt p.2)
  back : ∀ f ∈ KA kn, SpanF (boxFacts K M O S z ps) f.1 (byteAt f.2)

theorem KB_kn0 (n : Nat) : KB kn0 n = [] := by
  induction n with
  | zero => rfl
  | succ n ih => rw [KB_succ, if_pos (show (kn0 n).1 = 0 from rfl)]; exact ih

theorem Rel.new (K M O S z : Nat) : Rel K M O S z kn0 [] := ⟨kn0_ok K z, fun p hp => by simp at hp, fun p hp => by simp at hp, fun f hf => by rw [KA, KB_kn0] at hf; simp at hf⟩

theorem Rel.rows {K M O S z : Nat} {ps : List (Nat × ByteArray)} {b : Nat} {v : Vec} (h : SpanF (rowFacts K M O S z) b v) : SpanF (boxFacts K M O S z ps) b v := SpanF_sub (fun _ hf => List.mem_append_left _ hf) h

theorem Rel.from {K M O S z : Nat} {kn : Kn} {ps : List (Nat × ByteArray)} (h : Rel K M O S z kn ps) {x : Nat} {v : Vec} (hx : SpanF (boxFacts K M O S z ps) x v) : SpanF (KA kn) (phiTo (ofs K M O S) x (K + M)) v := by
  have key : ∀ (l : List Fct), (∀ f ∈ l, SpanF (KA kn) (phiTo (ofs K M O S) f.1 (K + M)) (byteAt f.2)) → ∀ (b : Nat) (v : Vec), SpanF l b v → SpanF (KA kn) (phiTo (ofs K M O S) b (K + M)) v := by
    intro l
    induction l with
    | nil =>
      rintro _ b v ⟨rfl, rfl⟩
      rw [phiTo_zero]; exact SpanF_zero _
    | cons f l ih =>
      intro hl b v hb
      have hl' : ∀ g ∈ l, SpanF (KA kn) (phiTo (ofs K M O S) g.1 (K + M)) (byteAt g.2) := fun g hg => hl g (List.mem_cons_of_mem _ hg)
      rcases hb with hb | hb
      · exact ih hl' b v hb
      · have h1 := SpanF_xor (ih hl' _ _ hb) (hl f (by simp))
        rw [phiTo_xor, xor_cancel, vx_cancel] at h1
        exact h1
  refine key _ (fun f hf => ?_) x v hx
  rcases List.mem_append.1 hf with hf | hf
  · obtain ⟨i, hi, rfl⟩ := List.mem_map.1 hf
    show SpanF (KA kn) (phiTo (ofs K M O S) (rowBits (rowOf K M O S i)) (K + M)) (byteAt (zeroB z))
    rw [phi_rowOf K M O S i (List.mem_range.1 hi), vec_zeroB]
    exact SpanF_zero _
  · obtain ⟨p, hp, rfl⟩ := List.mem_map.1 hf
    show SpanF (KA kn) (phiTo (ofs K M O S) (2 ^ p.1) (K + M)) (byteAt p.2)
    rw [phiTo_unit, if_pos (h.inn p hp).1]
    exact h.to p hp

/-- What follows at a place, for the one and for the other. -/
theorem Rel.unit {K M O S z : Nat} {kn : Kn} {ps : List (Nat × ByteArray)} (h : Rel K M O S z kn ps) {i : Nat} (hi : i < K + M) (v : Vec) : SpanF (boxFacts K M O S z ps) (2 ^ i) v ↔ SpanF (KA kn) (ofs K M O S i) v := by
  constructor
  · intro hx
    have := h.from hx
    rwa [phiTo_unit, if_pos hi] at this
  · intro hx
    have h1 := SpanF_of h.back hx
    have h2 := SpanF_xor (Rel.rows (ps := ps) (unit_of K M O S z i hi)) h1
    rw [xor_cancel, vx_comm, vx_zero] at h2
    exact h2

theorem Rel.tells {K M O S z : Nat} {kn : Kn} {ps : List (Nat × ByteArray)} (h : Rel K M O S z kn ps) (hn : K + M ≤ 40) {i : Nat} (hi : i < K + M) :
    ((told (boxFacts K M O S z ps) (2 ^ i) z).2 = true ↔ sp ((KA kn).map Prod.fst) (ofs K M O S i)) ∧ ((told (boxFacts K M O S z ps) (2 ^ i) z).2 = true → SpanF (KA kn) (ofs K M O S i) (byteAt (told (boxFacts K M O S z ps) (2 ^ i) z).1)) ∧ (told (boxFacts K M O S z ps) (2 ^ i) z).1.size = z := by
  obtain ⟨h1, h2, h3⟩ := told_ok (boxFacts K M O S z ps) (2 ^ i) z (boxFacts_sized K M O S z ps (fun p hp => (h.inn p hp).2)) (boxFacts_low K M O S z 40 ps hn (fun p hp => (h.inn p hp).1))
  refine ⟨?_, fun ht => (h.unit hi _).1 (h2 ht), h3⟩
  rw [h1, sp_iff, sp_iff]
  exact ⟨fun ⟨v, hv⟩ => ⟨v, (h.unit hi v).1 hv⟩, fun ⟨v, hv⟩ => ⟨v, (h.unit hi v).2 hv⟩⟩

/-- Get answers alike. -/
theorem Rel.get {K M O S z : Nat} {kn : Kn} {ps : List (Nat × ByteArray)} (h : Rel K M O S z kn ps) (hn : K + M ≤ 40) {i : Nat} (hi : i < K + M) :
    ((told (boxFacts K M O S z ps) (2 ^ i) z).2 = true ↔ (left kn (ofs K M O S i) (zeroB z)).1 = 0) ∧ ((left kn (ofs K M O S i) (zeroB z)).1 = 0 → (left kn (ofs K M O S i) (zeroB z)).2 = (told (boxFacts K M O S z ps) (2 ^ i) z).1) := by
  obtain ⟨h1, h2, h3⟩ := h.tells hn hi
  have hl := left_ok h.ok (ofs K M O S i) (zeroB z) (zeroB_size z)
  have hiff : (told (boxFacts K M O S z ps) (2 ^ i) z).2 = true ↔ (left kn (ofs K M O S i) (zeroB z)).1 = 0 := h1.trans hl.zero.symm
  refine ⟨hiff, fun h0 => ?_⟩
  have h4 := h2 (hiff.2 h0)
  have h5 := hl.span
  rw [h0, Nat.xor_zero, vec_zeroB, vx_comm, vx_zero] at h5
  exact vec_inj (by rw [hl.size, h3]) ((ech_sound (KB_ech h.ok 20)).one h5 h4)

/-- Put answers alike. -/
theorem Rel.put {K M O S z : Nat} {kn : Kn} {ps : List (Nat × ByteArray)} (h : Rel K M O S z kn ps) (hn : K + M ≤ 40) {i : Nat} (hi : i < K + M) {p : ByteArray} (hp : p.size = z) :
    ((told (boxFacts K M O S z ps) (2 ^ i) z).2 = true ↔ (left kn (ofs K M O S i) p).1 = 0) ∧ ((left kn (ofs K M O S i) p).1 = 0 → ((left kn (ofs K M O S i) p).2 = zeroB z ↔ (told (boxFacts K M O S z ps) (2 ^ i) z).1 = p)) := by
  obtain ⟨h1, h2, h3⟩ := h.tells hn hi
  have hl := left_ok h.ok (ofs K M O S i) p hp
  have hiff : (told (boxFacts K M O S z ps) (2 ^ i) z).2 = true ↔ (left kn (ofs K M O S i) p).1 = 0 := h1.trans hl.zero.symm
  refine ⟨hiff, fun h0 => ?_⟩
  have h4 := h2 (hiff.2 h0)
  have h5 := hl.span
  rw [h0, Nat.xor_zero] at h5
  have h6 := (ech_sound (KB_ech h.ok 20)).one h5 h4
  constructor
  · intro e
    rw [e, vec_zeroB, vx_zero] at h6
    exact (vec_inj (by rw [hp, h3]) h6).symm
  · intro e
    rw [e] at h6
    have h7 : vx (vx (byteAt (left kn (ofs K M O S i) p).2) (byteAt p)) (byteAt p) = vx (byteAt p) (byteAt p) := by rw [vx_comm (byteAt (left kn (ofs K M O S i) p).2), h6]
    rw [vx_cancel, vx_self] at h7
    exact vec_inj (by rw [hl.size, zeroB_size]) (by rw [h7, vec_zeroB])

theorem boxFacts_sub {K M O S z : Nat} {ps qs : List (Nat × ByteArray)} {b : Nat} {v : Vec} (h : SpanF (boxFacts K M O S z ps) b v) : SpanF (boxFacts K M O S z (ps ++ qs)) b v :=
  SpanF_sub (fun f hf => by
    rcases List.mem_append.1 hf with hf | hf
    · exact List.mem_append_left _ hf
    · refine List.mem_append_right _ ?_
      unfold putFacts at hf ⊢
      rw [List.map_append]
      exact List.mem_append_left _ hf) h

/-- Both go on alike behind a piece that did not follow. -/
theorem Rel.push {K M O S z : Nat} {kn : Kn} {ps : List (Nat × ByteArray)} (h : Rel K M O S z kn ps) (hK : K ≤ 20) {i : Nat} (hi : i < K + M) {p : ByteArray} (hp : p.size = z) (h0 : (left kn (ofs K M O S i) p).1 ≠ 0) :
    Rel K M O S z (putK kn (ofs K M O S i) p) (ps ++ [(i, p)]) := by
  have hx := ofs_lt K M O S i
  refine ⟨putK_ok h.ok hK hp hx, ?_, ?_, ?_⟩
  · intro q hq
    rcases List.mem_append.1 hq with hq | hq
    · exact h.inn q hq
    · simp at hq; subst hq; exact ⟨hi, hp⟩
  · intro q hq
    rcases List.mem_append.1 hq with hq | hq
    · exact putK_keeps h.ok hK hp hx (h.to q hq)
    · simp at hq; subst hq
      exact putK_has h.ok hK hp hx (fun e => absurd e h0)
  · refine putK_back h.ok hp (fun f hf => boxFacts_sub (h.back f hf)) ?_
    have hm : SpanF (boxFacts K M O S z (ps ++ [(i, p)])) (2 ^ i) (byteAt p) := SpanF_mem (f := (2 ^ i, p)) (List.mem_append_right _ (by unfold putFacts; simp))
    have h2 := SpanF_xor hm (Rel.rows (ps := ps ++ [(i, p)]) (unit_of K M O S z i hi))
    rw [vx_zero, ← Nat.xor_assoc, Nat.xor_self, Nat.zero_xor] at h2
    exact h2

theorem rows_indep_on (K M O S z : Nat) (E : List Nat) (hE : Indep E) (hlow : ∀ f ∈ E, ∀ j, K ≤ j → f.testBit j = false) : Indep ((rowFacts K M O S z).reverse.map Prod.fst ++ E) := by
  have h : ∀ n, Indep ((((List.range n).map fun i => (rowBits (rowOf K M O S i), zeroB z)).reverse).map Prod.fst ++ E) ∧ (∀ f ∈ ((((List.range n).map fun i => (rowBits (rowOf K M O S i), zeroB z)).reverse).map Prod.fst ++ E), ∀ j, K + n ≤ j → f.testBit j = false) := by
    intro n
    induction n with
    | zero => exact ⟨hE, fun f hf => hlow f hf⟩
    | succ n ih =>
      rw [List.range_succ, List.map_append, List.reverse_append, List.map_append]
      refine ⟨⟨fun hs => ?_, ih.1⟩, fun f hf j hj => ?_⟩
      · have h1 := sp_low _ (K + n) ih.2 hs (K + n) (Nat.le_refl _)
        have h2 : (rowBits (rowOf K M O S n)).testBit (K + n) = true := by
          rw [testBit_rowBits, decide_eq_true_eq, rowOf_head]; simp
        have h3 : (rowBits (rowOf K M O S n)).testBit (K + n) = false := h1
        rw [h2] at h3
        cases h3
      · rw [List.append_assoc] at hf
        rcases List.mem_append.1 hf with hf | hf
        · simp at hf
          subst hf
          rw [testBit_rowBits, decide_eq_false_iff_not]
          intro hm
          have := rowOf_lt K M O S n j hm
          omega
        · exact ih.2 f hf j (by omega)
  exact (h M).1

/-- Need answers alike. -/
theorem Rel.need {K M O S z : Nat} {kn : Kn} {ps : List (Nat × ByteArray)} (h : Rel K M O S z kn ps) (hK : K ≤ 20) (hn : K + M ≤ 40) : (needTo (boxFacts K M O S z ps) z (K + M)).2 = openK kn K := by
  have hA : KA kn = KB kn K := KB_above h.ok 20 hK
  have hlow : ∀ f ∈ (KA kn).map Prod.fst, ∀ j, K ≤ j → f.testBit j = false := by rw [hA]; exact ech_low (KB_ech h.ok K)
  have hB := rows_indep_on K M O S z ((KA kn).map Prod.fst) (ech_indep (KB_ech h.ok 20)) hlow
  have hc := need_count (boxFacts K M O S z ps) z (K + M) _ hn (boxFacts_sized K M O S z ps (fun p hp => (h.inn p hp).2)) (boxFacts_low K M O S z (K + M) ps (Nat.le_refl _) (fun p hp => (h.inn p hp).1)) hB (fun f hf => ?_) (fun f hf => ?_)
  · have hl := openK_KB kn K
    rw [List.length_append, List.length_map, List.length_map, List.length_reverse, hA] at hc
    have hM : (rowFacts K M O S z).length = M := by simp [rowFacts]
    omega
  · rcases List.mem_append.1 hf with hf | hf
    · obtain ⟨g, hg, rfl⟩ := List.mem_map.1 hf
      exact (sp_iff _ _).2 ⟨_, Rel.rows (SpanF_mem (List.mem_reverse.1 hg))⟩
    · obtain ⟨g, hg, rfl⟩ := List.mem_map.1 hf
      exact (sp_iff _ _).2 ⟨_, h.back g hg⟩
  · obtain ⟨g, hg, rfl⟩ := List.mem_map.1 hf
    have hrow : ∀ f ∈ (rowFacts K M O S z).map Prod.fst, sp ((rowFacts K M O S z).reverse.map Prod.fst ++ (KA kn).map Prod.fst) f := fun f hf => sp_mem (List.mem_append_left _ (by rw [List.map_reverse]; exact List.mem_reverse.2 hf))
    rcases List.mem_append.1 hg with hg | hg
    · exact hrow _ (List.mem_map.2 ⟨g, hg, rfl⟩)
    · obtain ⟨p, hp, rfl⟩ := List.mem_map.1 hg
      have h1 : sp ((rowFacts K M O S z).map Prod.fst) (2 ^ p.1 ^^^ ofs K M O S p.1) := (sp_iff _ _).2 ⟨_, unit_of K M O S z p.1 (h.inn p hp).1⟩
      have h2 : sp ((KA kn).map Prod.fst) (ofs K M O S p.1) := (sp_iff _ _).2 ⟨_, h.to p hp⟩
      have h3 := sp_xor (sp_of hrow h1) (sp_sub (l' := (rowFacts K M O S z).reverse.map Prod.fst ++ (KA kn).map Prod.fst) (fun f hf => List.mem_append_right _ hf) h2)
      rw [xor_cancel] at h3
      exact h3

/-- The sum of a word's pieces is the word's. -/
theorem word_of (K M O S z : Nat) (P : List ByteArray) (hl : P.length = K + M) (hp : ∀ x ∈ P, x.size = z) (hfit : ∀ i, i < M → sumB P (rowOf K M O S i) z = zeroB z) (i : Nat) (hi : i < K + M) :
    evTo (fun j => byteAt (P.getD j ByteArray.empty)) (ofs K M O S i) (K + M) = byteAt (P.getD i ByteArray.empty) := by
  have hm := word_meets K M O S z P [] hl hp hfit (fun p hp => by simp at hp)
  have h1 := hm.span (Rel.rows (ps := []) (unit_of K M O S z i hi))
  rw [evTo_xor, evTo_unit, if_pos hi] at h1
  have h2 : vx (vx (evTo (fun j => byteAt (P.getD j ByteArray.empty)) (ofs K M O S i) (K + M)) (byteAt (P.getD i ByteArray.empty))) (byteAt (P.getD i ByteArray.empty)) = vx v0 (byteAt (P.getD i ByteArray.empty)) := by
    rw [vx_comm (evTo _ _ _), h1]
  rwa [vx_cancel, vx_comm, vx_zero] at h2

end Go.Proofs.YtnjaofkieajnlaaGreat
