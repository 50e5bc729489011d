/- The program's boxes as plain mathematics: what is known by its highest data, how it is taken away, what follows. Nothing of the program. -/
import Derived.Test.YtnjaofkieajnlaaGreatBoxMaths
namespace Go.Proofs.YtnjaofkieajnlaaGreat

/-- What is known, at j a sum whose highest data is j (of no data: nothing). -/
abbrev Kn := Nat → Fct

def kn0 : Kn := fun _ => (0, ByteArray.empty)

/-- One known sum is taken away. -/
def woStep (kn : Kn) (j : Nat) (st : Fct) : Fct := if st.1.testBit j = true ∧ (kn j).1 ≠ 0 then (st.1 ^^^ (kn j).1, xorB st.2 (kn j).2) else st

/-- The known sums below n are taken away, from the highest on. -/
def wo (kn : Kn) : Nat → Fct → Fct
  | 0, st => st
  | n + 1, st => wo kn n (woStep kn n st)

/-- The known sums below n, the highest first. -/
def KB (kn : Kn) : Nat → List Fct
  | 0 => []
  | n + 1 => if (kn n).1 = 0 then KB kn n else kn n :: KB kn n

theorem KB_succ (kn : Kn) (n : Nat) : KB kn (n + 1) = if (kn n).1 = 0 then KB kn n else kn n :: KB kn n := rfl

/-- Each known sum's highest data is its own, below K; its piece is of the size. -/
def KnOk (K z : Nat) (kn : Kn) : Prop := ∀ j, (kn j).1 = 0 ∨ (j < K ∧ (kn j).1.testBit j = true ∧ (∀ i, j < i → (kn j).1.testBit i = false) ∧ (kn j).2.size = z)

theorem kn0_ok (K z : Nat) : KnOk K z kn0 := fun _ => Or.inl rfl

theorem KnOk.log {K z : Nat} {kn : Kn} (h : KnOk K z kn) {j : Nat} (hj : (kn j).1 ≠ 0) : j < K ∧ (kn j).1.testBit j = true ∧ (∀ i, j < i → (kn j).1.testBit i = false) ∧ (kn j).2.size = z ∧ (kn j).1.log2 = j := by
  rcases h j with h0 | ⟨h1, h2, h3, h4⟩
  · exact absurd h0 hj
  · exact ⟨h1, h2, h3, h4, (log2_of h2 h3).2⟩

theorem KnOk.lt {K z : Nat} {kn : Kn} (h : KnOk K z kn) (hK : K ≤ 20) (j : Nat) : (kn j).1 < 1048576 := by
  by_cases h0 : (kn j).1 = 0
  · rw [h0]; decide
  · obtain ⟨h1, _, h3, _⟩ := h.log h0
    have : (kn j).1 < 2 ^ 20 := Nat.lt_pow_two_of_testBit _ (fun i hi => h3 i (by omega))
    omega

theorem KB_mem {kn : Kn} {n : Nat} {f : Fct} (hf : f ∈ KB kn n) : ∃ j, j < n ∧ f = kn j ∧ (kn j).1 ≠ 0 := by
  induction n with
  | zero => simp [KB] at hf
  | succ n ih =>
    unfold KB at hf
    by_cases h0 : (kn n).1 = 0
    · rw [if_pos h0] at hf
      obtain ⟨j, hj, h⟩ := ih hf
      exact ⟨j, by omega, h⟩
    · rw [if_neg h0] at hf
      rcases List.mem_cons.1 hf with e | hf
      · exact ⟨n, by omega, e, h0⟩
      · obtain ⟨j, hj, h⟩ := ih hf
        exact ⟨j, by omega, h⟩

theorem KB_has {kn : Kn} {n j : Nat} (hj : j < n) (h : (kn j).1 ≠ 0) : kn j ∈ KB kn n := by
  induction n with
  | zero => omega
  | succ n ih =>
    unfold KB
    by_cases e : j = n
    · subst e; rw [if_neg h]; simp
    · have := ih (by omega)
      by_cases h0 : (kn n).1 = 0
      · rw [if_pos h0]; exact this
      · rw [if_neg h0]; exact List.mem_cons_of_mem _ this

theorem Ech.up {n n' m : Nat} {E : List Fct} (h : Ech n E m) (hn : n ≤ n') : Ech n' E m := by
  cases E with
  | nil => have : m ≤ n := h
           show m ≤ n'; omega
  | cons f E => obtain ⟨b, hb, r⟩ := h
                exact ⟨b, by omega, r⟩

theorem KB_ech {K z : Nat} {kn : Kn} (h : KnOk K z kn) (n : Nat) : Ech n (KB kn n) 0 := by
  induction n with
  | zero => exact Nat.le_refl _
  | succ n ih =>
    unfold KB
    by_cases h0 : (kn n).1 = 0
    · rw [if_pos h0]; exact ih.up (by omega)
    · rw [if_neg h0]
      obtain ⟨_, h2, h3, _⟩ := h.log h0
      exact ⟨n, by omega, h2, h3, ih⟩

theorem KB_sized {K z : Nat} {kn : Kn} (h : KnOk K z kn) (n : Nat) : Sized z (KB kn n) := by
  intro f hf
  obtain ⟨j, _, rfl, h0⟩ := KB_mem hf
  exact (h.log h0).2.2.2.1

theorem wo_tell {K z : Nat} {kn : Kn} (h : KnOk K z kn) : ∀ (n : Nat) (st : Fct), wo kn n st = tell (KB kn n) st
  | 0, _ => rfl
  | n + 1, st => by
    show wo kn n (woStep kn n st) = _
    rw [wo_tell h n, KB_succ]
    by_cases h0 : (kn n).1 = 0
    · rw [if_pos h0]
      unfold woStep
      rw [if_neg (fun x => x.2 h0)]
    · rw [if_neg h0]
      show _ = tell (KB kn n) (tellStep st (kn n))
      congr 1
      unfold woStep tellStep
      rw [(h.log h0).2.2.2.2]
      by_cases hb : st.1.testBit n = true
      · rw [if_pos ⟨hb, h0⟩, if_pos ⟨h0, hb⟩]
      · rw [if_neg (fun x => hb x.1), if_neg (fun x => hb x.2)]

theorem ech_sound {n m : Nat} {E : List Fct} (h : Ech n E m) : Sound E := by
  induction E generalizing n with
  | nil => intro v hv; exact hv.2
  | cons g E ih =>
    obtain ⟨b, hb, h1, h2, he⟩ := h
    refine (ih he).add g (fun hs => ?_)
    have := sp_low _ b (ech_low he) hs b (Nat.le_refl _)
    rw [h1] at this
    cases this

/-- All the known sums. -/
abbrev KA (kn : Kn) : List Fct := KB kn 20

/-- What is left of some data's sum. -/
def left (kn : Kn) (x : Nat) (p : ByteArray) : Fct := wo kn 20 (x, p)

structure Left (K z : Nat) (kn : Kn) (x : Nat) (p : ByteArray) : Prop where
  span : SpanF (KA kn) (x ^^^ (left kn x p).1) (vx (byteAt p) (byteAt (left kn x p).2))
  size : (left kn x p).2.size = z
  free : ∀ j, j < 20 → (kn j).1 ≠ 0 → (left kn x p).1.testBit j = false
  low : ∀ n, K ≤ n → x < 2 ^ n → (left kn x p).1 < 2 ^ n
  zero : (left kn x p).1 = 0 ↔ sp ((KA kn).map Prod.fst) x

theorem left_ok {K z : Nat} {kn : Kn} (h : KnOk K z kn) (x : Nat) (p : ByteArray) (hp : p.size = z) : Left K z kn x p := by
  have hech := KB_ech h 20
  obtain ⟨h1, h2, h3, h4⟩ := tell_ok z (KA kn) 20 0 (x, p) hech (KB_sized h 20) hp
  have hw : wo kn 20 (x, p) = tell (KA kn) (x, p) := wo_tell h 20 _
  refine ⟨?_, ?_, ?_, ?_, ?_⟩
  · unfold left; rw [hw]; exact h1
  · unfold left; rw [hw]; exact h2
  · unfold left; rw [hw]
    intro j hj h0
    have := h3 (kn j) (KB_has hj h0)
    rwa [(h.log h0).2.2.2.2] at this
  · intro n hn hx
    unfold left; rw [hw]
    have hs : sp ((KA kn).map Prod.fst) (x ^^^ (tell (KA kn) (x, p)).1) := (sp_iff _ _).2 ⟨_, h1⟩
    have hl := sp_low _ n (fun f hf j hj => by
      obtain ⟨g, hg, rfl⟩ := List.mem_map.1 hf
      obtain ⟨i, hi, rfl, h0⟩ := KB_mem hg
      have := h.log h0
      exact this.2.2.1 j (by omega)) hs
    refine Nat.lt_pow_two_of_testBit _ (fun i hi => ?_)
    have h5 := hl i hi
    rw [Nat.testBit_xor, Nat.testBit_lt_two_pow (Nat.lt_of_lt_of_le hx (Nat.pow_le_pow_right (by omega) hi)), Bool.false_xor] at h5
    exact h5
  · unfold left; rw [hw]
    constructor
    · intro h0
      rw [h0] at h1
      have h1' : SpanF (KA kn) (x ^^^ 0) _ := h1
      rw [Nat.xor_zero] at h1'
      exact (sp_iff _ _).2 ⟨_, h1'⟩
    · intro hs
      have h6 := (sp_iff _ _).2 ⟨_, h1⟩
      have h7 := sp_xor hs h6
      have h8 : sp ((KA kn).map Prod.fst) (tell (KA kn) (x, p)).1 := by
        rw [← Nat.xor_assoc, Nat.xor_self, Nat.zero_xor] at h7
        exact h7
      exact ech_zero hech h8 h3

/-- Behind a piece that was put in. -/
def putK (kn : Kn) (x : Nat) (p : ByteArray) : Kn := if (left kn x p).1 = 0 then kn else fun j => if j = (left kn x p).1.log2 then left kn x p else kn j

theorem top_of {x : Nat} (h : x ≠ 0) : x.testBit x.log2 = true ∧ ∀ j, x.log2 < j → x.testBit j = false :=
  ⟨Nat.testBit_log2 h, fun j hj => Nat.testBit_lt_two_pow (Nat.lt_of_lt_of_le Nat.lt_log2_self (Nat.pow_le_pow_right (by omega) hj))⟩

theorem left_top {K z : Nat} {kn : Kn} (h : KnOk K z kn) (hK : K ≤ 20) {x : Nat} {p : ByteArray} (hp : p.size = z) (hx : x < 2 ^ K) (h0 : (left kn x p).1 ≠ 0) : (left kn x p).1.log2 < K ∧ (kn (left kn x p).1.log2).1 = 0 := by
  have hl := left_ok h x p hp
  have hlt := hl.low K (Nat.le_refl _) hx
  have h1 : (left kn x p).1.log2 < K := (Nat.log2_lt h0).2 hlt
  refine ⟨h1, ?_⟩
  by_cases hk : (kn (left kn x p).1.log2).1 = 0
  · exact hk
  · have h2 := hl.free _ (by omega) hk
    rw [(top_of h0).1] at h2
    cases h2

theorem putK_ok {K z : Nat} {kn : Kn} (h : KnOk K z kn) (hK : K ≤ 20) {x : Nat} {p : ByteArray} (hp : p.size = z) (hx : x < 2 ^ K) : KnOk K z (putK kn x p) := by
  unfold putK
  by_cases h0 : (left kn x p).1 = 0
  · rw [if_pos h0]; exact h
  · rw [if_neg h0]
    intro j
    by_cases e : j = (left kn x p).1.log2
    · simp only [if_pos e]
      obtain ⟨t1, t2⟩ := top_of h0
      exact Or.inr ⟨by rw [e]; exact (left_top h hK hp hx h0).1, by rw [e]; exact t1, by rw [e]; exact t2, (left_ok h x p hp).size⟩
    · simp only [if_neg e]; exact h j

/-- How many are missing. -/
def openK (kn : Kn) : Nat → Nat
  | 0 => 0
  | n + 1 => openK kn n + if (kn n).1 = 0 then 1 else 0

theorem openK_succ (kn : Kn) (n : Nat) : openK kn (n + 1) = openK kn n + if (kn n).1 = 0 then 1 else 0 := rfl

theorem openK_le (kn : Kn) (n : Nat) : openK kn n ≤ n := by
  induction n with
  | zero => exact Nat.le_refl _
  | succ n ih => unfold openK; split <;> omega

theorem openK_KB (kn : Kn) (n : Nat) : openK kn n + (KB kn n).length = n := by
  induction n with
  | zero => rfl
  | succ n ih =>
    unfold openK KB
    by_cases h : (kn n).1 = 0
    · rw [if_pos h, if_pos h]; omega
    · rw [if_neg h, if_neg h, List.length_cons]; omega

theorem openK_kn0 (n : Nat) : openK kn0 n = n := by
  induction n with
  | zero => rfl
  | succ n ih => show openK kn0 n + 1 = n + 1; rw [ih]

theorem openK_set (kn : Kn) (t : Nat) (f : Fct) (hf : f.1 ≠ 0) (h0 : (kn t).1 = 0) (n : Nat) : openK (fun j => if j = t then f else kn j) n + (if t < n then 1 else 0) = openK kn n := by
  induction n with
  | zero => rfl
  | succ n ih =>
    rw [openK_succ, openK_succ]
    by_cases e : n = t
    · subst e
      rw [if_neg (Nat.lt_irrefl _)] at ih
      simp only [if_true, if_neg hf, if_pos h0, if_pos (Nat.lt_succ_self n)]
      omega
    · simp only [if_neg e]
      by_cases l : t < n
      · rw [if_pos l] at ih; rw [if_pos (show t < n + 1 from by omega)]; omega
      · rw [if_neg l] at ih; rw [if_neg (show ¬ t < n + 1 from by omega)]; omega

theorem openK_put {K z : Nat} {kn : Kn} (h : KnOk K z kn) (hK : K ≤ 20) {x : Nat} {p : ByteArray} (hp : p.size = z) (hx : x < 2 ^ K) (h0 : (left kn x p).1 ≠ 0) : openK (putK kn x p) K + 1 = openK kn K := by
  obtain ⟨h1, h2⟩ := left_top h hK hp hx h0
  have := openK_set kn _ (left kn x p) h0 h2 K
  rw [if_pos h1] at this
  unfold putK
  rw [if_neg h0]
  exact this

theorem KB_above {K z : Nat} {kn : Kn} (h : KnOk K z kn) (n : Nat) (hn : K ≤ n) : KB kn n = KB kn K := by
  induction n with
  | zero => have : K = 0 := by omega
            rw [this]
  | succ n ih =>
    by_cases e : K = n + 1
    · rw [e]
    · rw [KB_succ]
      have h0 : (kn n).1 = 0 := by
        rcases h n with h0 | h1
        · exact h0
        · omega
      rw [if_pos h0]
      exact ih (by omega)

/-- What was known is so still. -/
theorem putK_keeps {K z : Nat} {kn : Kn} (h : KnOk K z kn) (hK : K ≤ 20) {x : Nat} {p : ByteArray} (hp : p.size = z) (hx : x < 2 ^ K) {b : Nat} {v : Vec} (hs : SpanF (KA kn) b v) : SpanF (KA (putK kn x p)) b v := by
  refine SpanF_of (fun f hf => ?_) hs
  obtain ⟨j, hj, rfl, hj0⟩ := KB_mem hf
  unfold putK
  by_cases h0 : (left kn x p).1 = 0
  · rw [if_pos h0]; exact SpanF_mem hf
  · rw [if_neg h0]
    have hne : j ≠ (left kn x p).1.log2 := fun e => hj0 (by rw [e]; exact (left_top h hK hp hx h0).2)
    have hm : (fun i => if i = (left kn x p).1.log2 then left kn x p else kn i) j ∈ KA (fun i => if i = (left kn x p).1.log2 then left kn x p else kn i) := KB_has hj (by simp only [if_neg hne]; exact hj0)
    simp only [if_neg hne] at hm
    exact SpanF_mem hm

/-- A piece that did not follow, or that does, follows behind it. -/
theorem putK_has {K z : Nat} {kn : Kn} (h : KnOk K z kn) (hK : K ≤ 20) {x : Nat} {p : ByteArray} (hp : p.size = z) (hx : x < 2 ^ K) (h0 : (left kn x p).1 = 0 → (left kn x p).2 = zeroB z) : SpanF (KA (putK kn x p)) x (byteAt p) := by
  have hl := left_ok h x p hp
  have h1 := putK_keeps h hK hp hx hl.span
  by_cases e : (left kn x p).1 = 0
  · rw [e, Nat.xor_zero, h0 e, vec_zeroB, vx_zero] at h1
    exact h1
  · have hm : SpanF (KA (putK kn x p)) (left kn x p).1 (byteAt (left kn x p).2) := by
      unfold putK
      rw [if_neg e]
      have ht := left_top h hK hp hx e
      have hm : (fun i => if i = (left kn x p).1.log2 then left kn x p else kn i) (left kn x p).1.log2 ∈ KA (fun i => if i = (left kn x p).1.log2 then left kn x p else kn i) := KB_has (by omega) (by simp only [if_true]; exact e)
      simp only [if_true] at hm
      exact SpanF_mem hm
    have h2 := SpanF_xor h1 hm
    rw [xor_cancel, vx_cancel] at h2
    exact h2

/-- Whatever is known behind a put was known or is what was put in. -/
theorem putK_back {K z : Nat} {kn : Kn} (h : KnOk K z kn) {x : Nat} {p : ByteArray} (hp : p.size = z) {G : List Fct} (hG : ∀ f ∈ KA kn, SpanF G f.1 (byteAt f.2)) (hx : SpanF G x (byteAt p)) : ∀ f ∈ KA (putK kn x p), SpanF G f.1 (byteAt f.2) := by
  have hl := left_ok h x p hp
  have h1 := SpanF_xor hx (SpanF_of hG hl.span)
  rw [← Nat.xor_assoc, Nat.xor_self, Nat.zero_xor, ← vx_assoc, vx_self, vx_comm, vx_zero] at h1
  intro f hf
  unfold putK at hf
  by_cases e : (left kn x p).1 = 0
  · rw [if_pos e] at hf; exact hG f hf
  · rw [if_neg e] at hf
    obtain ⟨j, hj, rfl, hj0⟩ := KB_mem hf
    by_cases ej : j = (left kn x p).1.log2
    · simp only [if_pos ej]; exact h1
    · simp only [if_neg ej] at hj0 ⊢
      exact hG _ (KB_has hj hj0)

/-- All follow just where none is missing. -/
theorem open_none {K z : Nat} {kn : Kn} (h : KnOk K z kn) (hK : K ≤ 20) (h0 : openK kn K = 0) {x : Nat} (hx : x < 2 ^ K) : sp ((KA kn).map Prod.fst) x := by
  have hech := KB_ech h 20
  have hlen := openK_KB kn K
  rw [h0, Nat.zero_add] at hlen
  have hA : KA kn = KB kn K := KB_above h 20 hK
  by_cases hs : sp ((KA kn).map Prod.fst) x
  · exact hs
  · have hi : Indep (x :: (KA kn).map Prod.fst) := ⟨hs, ech_indep hech⟩
    have := indep_le (unitsTo K) _ hi (fun f hf => units_span K f (by
      rcases List.mem_cons.1 hf with e | hf
      · subst e; exact fun j hj => Nat.testBit_lt_two_pow (Nat.lt_of_lt_of_le hx (Nat.pow_le_pow_right (by omega) hj))
      · rw [hA] at hf; exact fun j hj => ech_low (KB_ech h K) f hf j hj))
    rw [unitsTo_length, List.length_cons, List.length_map, hA, hlen] at this
    omega

theorem open_some {K z : Nat} {kn : Kn} (h : KnOk K z kn) (hK : K ≤ 20) (hall : ∀ j, j < K → sp ((KA kn).map Prod.fst) (2 ^ j)) : openK kn K = 0 := by
  have hlen := openK_KB kn K
  have hA : KA kn = KB kn K := KB_above h 20 hK
  have hu : ∀ m, m ≤ K → ∀ f ∈ unitsTo m, sp ((KA kn).map Prod.fst) f := by
    intro m
    induction m with
    | zero => intro _ f hf; simp [unitsTo] at hf
    | succ m ih =>
      intro hm f hf
      rcases List.mem_cons.1 hf with e | hf
      · subst e; exact hall m (by omega)
      · exact ih (by omega) f hf
  have := indep_le _ (unitsTo K) (unitsTo_indep K) (hu K (Nat.le_refl _))
  rw [unitsTo_length, List.length_map, hA] at this
  omega

end Go.Proofs.YtnjaofkieajnlaaGreat
