/- Texts of the proof, part 2. -/
import Derived.Test.YtnjaofkieajnlaaKnownG0

/- The document's own way to what follows: facts in stairs, and what they tell; that it tells just the sums of the facts. Nothing of the program. -/
namespace Go.Proofs.Ytnjaofkieajnlaa

/-- Bytes by the index. -/
abbrev Vec := Nat → UInt8
def vx (a b : Vec) : Vec := fun i => a i ^^^ b i
def v0 : Vec := fun _ => 0

theorem vx_comm (a b : Vec) : vx a b = vx b a := by funext i; exact UInt8.xor_comm _ _
theorem vx_assoc (a b c : Vec) : vx (vx a b) c = vx a (vx b c) := by funext i; exact UInt8.xor_assoc _ _ _
theorem vx_self (a : Vec) : vx a a = v0 := by funext i; exact UInt8.xor_self
theorem vx_zero (a : Vec) : vx a v0 = a := by funext i; exact UInt8.xor_zero
theorem vx_cancel (a b : Vec) : vx (vx a b) b = a := by rw [vx_assoc, vx_self, vx_zero]
theorem vx_swap (a b c : Vec) : vx (vx a b) c = vx (vx a c) b := by rw [vx_assoc, vx_comm b c, ← vx_assoc]

/-- A piece's bytes, noughts behind its end. -/
theorem byteAt_out (a : ByteArray) (i : Nat) (h : a.size ≤ i) : byteAt a i = 0 := by
  unfold byteAt
  rw [List.getD_eq_getElem?_getD, List.getElem?_eq_none (by simpa using h)]; rfl

theorem vec_xorB {a b : ByteArray} (h : a.size = b.size) : byteAt (xorB a b) = vx (byteAt a) (byteAt b) := by
  funext i
  by_cases hi : i < a.size
  · exact byteAt_xorB h i hi
  · show byteAt (xorB a b) i = byteAt a i ^^^ byteAt b i
    rw [byteAt_out _ i (by rw [xorB_size h]; omega), byteAt_out a i (by omega), byteAt_out b i (by omega)]
    rfl

theorem vec_zeroB (n : Nat) : byteAt (zeroB n) = v0 := by funext i; exact byteAt_zeroB n i

theorem vec_inj {a b : ByteArray} (h : a.size = b.size) (he : byteAt a = byteAt b) : a = b := bytes_ext h (fun i _ => by rw [he])

/-- A fact: the sum of some pieces (bits) is this. -/
abbrev Fct := Nat × ByteArray

/-- The sums of facts. -/
def SpanF : List Fct → Nat → Vec → Prop
  | [], b, v => b = 0 ∧ v = v0
  | f :: l, b, v => SpanF l b v ∨ SpanF l (b ^^^ f.1) (vx v (byteAt f.2))

theorem SpanF_zero (l : List Fct) : SpanF l 0 v0 := by
  induction l with
  | nil => exact ⟨rfl, rfl⟩
  | cons f l ih => exact Or.inl ih

theorem SpanF_xor {l : List Fct} {a b : Nat} {u v : Vec} (ha : SpanF l a u) (hb : SpanF l b v) : SpanF l (a ^^^ b) (vx u v) := by
  induction l generalizing a b u v with
  | nil =>
    obtain ⟨h1, h2⟩ := ha
    obtain ⟨h3, h4⟩ := hb
    subst h1 h2 h3 h4
    exact ⟨rfl, vx_zero _⟩
  | cons f l ih =>
    rcases ha with ha | ha <;> rcases hb with hb | hb
    · exact Or.inl (ih ha hb)
    · refine Or.inr ?_
      have := ih ha hb
      rwa [← Nat.xor_assoc, ← vx_assoc] at this
    · refine Or.inr ?_
      have := ih ha hb
      rwa [xor_swap, vx_swap] at this
    · refine Or.inl ?_
      have := ih ha hb
      rwa [Nat.xor_assoc, ← Nat.xor_assoc f.1 b f.1, Nat.xor_comm f.1 b, xor_cancel, vx_assoc, ← vx_assoc (byteAt f.2) v (byteAt f.2), vx_comm (byteAt f.2) v, vx_cancel] at this

theorem SpanF_mem {l : List Fct} {f : Fct} (h : f ∈ l) : SpanF l f.1 (byteAt f.2) := by
  induction l with
  | nil => simp at h
  | cons g l ih =>
    rcases List.mem_cons.1 h with h | h
    · subst h; refine Or.inr ?_; rw [Nat.xor_self, vx_self]; exact SpanF_zero l
    · exact Or.inl (ih h)

theorem SpanF_of {l l' : List Fct} (h : ∀ f ∈ l, SpanF l' f.1 (byteAt f.2)) {b : Nat} {v : Vec} (hb : SpanF l b v) : SpanF l' b v := by
  induction l generalizing b v with
  | nil => obtain ⟨h1, h2⟩ := hb
           subst h1 h2; exact SpanF_zero l'
  | cons f l ih =>
    have hl : ∀ g ∈ l, SpanF l' g.1 (byteAt g.2) := fun g hg => h g (List.mem_cons_of_mem _ hg)
    rcases hb with hb | hb
    · exact ih hl hb
    · have h1 := SpanF_xor (ih hl hb) (h f (by simp))
      rwa [xor_cancel, vx_cancel] at h1

theorem SpanF_sub {l l' : List Fct} (h : ∀ f ∈ l, f ∈ l') {b : Nat} {v : Vec} (hb : SpanF l b v) : SpanF l' b v := SpanF_of (fun f hf => SpanF_mem (h f hf)) hb

/-- The bits of the sums. -/
theorem sp_iff (l : List Fct) (b : Nat) : sp (l.map Prod.fst) b ↔ ∃ v, SpanF l b v := by
  induction l generalizing b with
  | nil => exact ⟨fun h => ⟨v0, h, rfl⟩, fun ⟨_, h, _⟩ => h⟩
  | cons f l ih =>
    show sp (l.map Prod.fst) b ∨ sp (l.map Prod.fst) (b ^^^ f.1) ↔ _
    constructor
    · rintro (h | h)
      · obtain ⟨v, hv⟩ := (ih b).1 h
        exact ⟨v, Or.inl hv⟩
      · obtain ⟨v, hv⟩ := (ih _).1 h
        exact ⟨vx v (byteAt f.2), Or.inr (by rwa [vx_cancel])⟩
    · rintro ⟨v, h | h⟩
      · exact Or.inl ((ih b).2 ⟨v, h⟩)
      · exact Or.inr ((ih _).2 ⟨_, h⟩)

/-- Facts that do not speak against each other. -/
def Sound (l : List Fct) : Prop := ∀ v, SpanF l 0 v → v = v0

theorem Sound.one {l : List Fct} (h : Sound l) {b : Nat} {u v : Vec} (hu : SpanF l b u) (hv : SpanF l b v) : u = v := by
  have h1 := SpanF_xor hu hv
  rw [Nat.xor_self] at h1
  have h2 := h _ h1
  have h3 : vx (vx u v) v = vx v0 v := by rw [h2]
  rwa [vx_cancel, vx_comm, vx_zero] at h3

/-- A fact of bits that are no sum may be added, whatever it says. -/
theorem Sound.add {l : List Fct} (h : Sound l) (f : Fct) (hf : ¬ sp (l.map Prod.fst) f.1) : Sound (f :: l) := by
  rintro v (hv | hv)
  · exact h v hv
  · refine absurd ((sp_iff l _).2 ⟨_, hv⟩) ?_
    rw [Nat.zero_xor]; exact hf

/-- One step of looking for a fact that has the bit. -/
def siftStep (bit : Nat) (st : List Fct × Option Fct) (f : Fct) : List Fct × Option Fct :=
  if f.1.testBit bit then
    match st.2 with
    | none => (st.1, some f)
    | some g => (st.1 ++ [(f.1 ^^^ g.1, xorB f.2 g.2)], some g)
  else (st.1 ++ [f], st.2)

def sift (bit : Nat) (l : List Fct) : List Fct × Option Fct := l.foldl (siftStep bit) ([], none)

/-- The stairs behind n bits, from bit 39 down, and what is left. -/
def stairsTo (l : List Fct) : Nat → List Fct × List Fct
  | 0 => ([], l)
  | n + 1 => ((stairsTo l n).1 ++ (sift (39 - n) (stairsTo l n).2).2.toList, (sift (39 - n) (stairsTo l n).2).1)

def stairsAll (l : List Fct) (n : Nat) : List Fct := (stairsTo l n).1 ++ (stairsTo l n).2

def stairs (l : List Fct) : List Fct := stairsAll l 40

/-- One step down the stairs. -/
def tellStep (st : Nat × ByteArray) (f : Fct) : Nat × ByteArray :=
  if f.1 ≠ 0 ∧ st.1.testBit f.1.log2 = true then (st.1 ^^^ f.1, xorB st.2 f.2) else st

def tell (E : List Fct) (st : Nat × ByteArray) : Nat × ByteArray := E.foldl tellStep st

/-- What the facts say of the sum of some pieces; false: nothing. -/
def told (l : List Fct) (bits z : Nat) : ByteArray × Bool := ((tell (stairs l) (bits, zeroB z)).2, (tell (stairs l) (bits, zeroB z)).1 == 0)

/-- All sums of a list are of one size. -/
def Sized (z : Nat) (l : List Fct) : Prop := ∀ f ∈ l, f.2.size = z

/-- What a sift keeps, over a part of the list that it has seen. -/
structure SiftOk (bit z : Nat) (p : List Fct) (st : List Fct × Option Fct) : Prop where
  sized : Sized z (st.2.toList ++ st.1)
  to : ∀ f ∈ p, SpanF (st.2.toList ++ st.1) f.1 (byteAt f.2)
  back : ∀ f ∈ st.2.toList ++ st.1, SpanF p f.1 (byteAt f.2)
  found : ∀ g, st.2 = some g → g ∈ p ∧ g.1.testBit bit = true
  rest : ∀ f ∈ st.1, f.1.testBit bit = false
  high : ∀ j, (∀ f ∈ p, f.1.testBit j = false) → ∀ f ∈ st.1, f.1.testBit j = false

theorem siftOk_step {bit z : Nat} {p : List Fct} {st : List Fct × Option Fct} (h : SiftOk bit z p st) (f : Fct) (hf : f.2.size = z) : SiftOk bit z (p ++ [f]) (siftStep bit st f) := by
  obtain ⟨rest, found⟩ := st
  have hback : ∀ x ∈ found.toList ++ rest, SpanF (p ++ [f]) x.1 (byteAt x.2) := fun x hx => SpanF_sub (fun y hy => List.mem_append_left _ hy) (h.back x hx)
  have hfp : SpanF (p ++ [f]) f.1 (byteAt f.2) := SpanF_mem (by simp)
  unfold siftStep
  cases hb : f.1.testBit bit
  · simp only [Bool.false_eq_true, if_false]
    refine ⟨?_, ?_, ?_, ?_, ?_, ?_⟩
    · intro x hx
      rw [← List.append_assoc] at hx
      rcases List.mem_append.1 hx with hx | hx
      · exact h.sized x hx
      · simp at hx; subst hx; exact hf
    · intro x hx
      rw [← List.append_assoc]
      rcases List.mem_append.1 hx with hx | hx
      · exact SpanF_sub (fun y hy => List.mem_append_left _ hy) (h.to x hx)
      · simp at hx; subst hx; exact SpanF_mem (by simp)
    · intro x hx
      rw [← List.append_assoc] at hx
      rcases List.mem_append.1 hx with hx | hx
      · exact hback x hx
      · simp at hx; subst hx; exact hfp
    · intro g hg
      have := h.found g hg
      exact ⟨List.mem_append_left _ this.1, this.2⟩
    · intro x hx
      rcases List.mem_append.1 hx with hx | hx
      · exact h.rest x hx
      · simp at hx; subst hx; exact hb
    · intro j hj x hx
      rcases List.mem_append.1 hx with hx | hx
      · exact h.high j (fun y hy => hj y (List.mem_append_left _ hy)) x hx
      · simp at hx; subst hx; exact hj _ (by simp)
  · simp only [if_true]
    cases found with
    | none =>
      refine ⟨?_, ?_, ?_, ?_, h.rest, ?_⟩
      · intro x hx
        rcases List.mem_cons.1 (show x ∈ f :: rest from hx) with hx | hx
        · subst hx; exact hf
        · exact h.sized x hx
      · intro x hx
        show SpanF (f :: rest) _ _
        rcases List.mem_append.1 hx with hx | hx
        · exact Or.inl (h.to x hx)
        · simp at hx; subst hx; exact SpanF_mem (by simp)
      · intro x hx
        rcases List.mem_cons.1 (show x ∈ f :: rest from hx) with hx | hx
        · subst hx; exact hfp
        · exact hback x hx
      · intro g hg
        simp at hg; subst hg
        exact ⟨by simp, hb⟩
      · intro j hj x hx
        exact h.high j (fun y hy => hj y (List.mem_append_left _ hy)) x hx
    | some g =>
      have hg := h.found g rfl
      have hgz : g.2.size = z := h.sized g (by simp)
      have hv : byteAt (xorB f.2 g.2) = vx (byteAt f.2) (byteAt g.2) := vec_xorB (by omega)
      refine ⟨?_, ?_, ?_, ?_, ?_, ?_⟩
      · intro x hx
        rw [← List.append_assoc] at hx
        rcases List.mem_append.1 hx with hx | hx
        · exact h.sized x hx
        · simp at hx; subst hx; show (xorB f.2 g.2).size = z; rw [xorB_size (by omega)]; exact hf
      · intro x hx
        rw [← List.append_assoc]
        rcases List.mem_append.1 hx with hx | hx
        · exact SpanF_sub (fun y hy => List.mem_append_left _ hy) (h.to x hx)
        · simp at hx; subst hx
          have h1 : SpanF ((some g).toList ++ rest ++ [(x.1 ^^^ g.1, xorB x.2 g.2)]) (x.1 ^^^ g.1) (byteAt (xorB x.2 g.2)) := SpanF_mem (f := (x.1 ^^^ g.1, xorB x.2 g.2)) (by simp)
          have h2 : SpanF ((some g).toList ++ rest ++ [(x.1 ^^^ g.1, xorB x.2 g.2)]) g.1 (byteAt g.2) := SpanF_mem (by simp)
          have h3 := SpanF_xor h1 h2
          rw [xor_cancel, hv, vx_cancel] at h3
          exact h3
      · intro x hx
        rw [← List.append_assoc] at hx
        rcases List.mem_append.1 hx with hx | hx
        · exact hback x hx
        · simp at hx; subst hx
          show SpanF _ (f.1 ^^^ g.1) (byteAt (xorB f.2 g.2))
          rw [hv]
          exact SpanF_xor hfp (hback g (by simp))
      · intro g' hg'
        simp at hg'; subst hg'
        exact ⟨List.mem_append_left _ hg.1, hg.2⟩
      · intro x hx
        rcases List.mem_append.1 hx with hx | hx
        · exact h.rest x hx
        · simp at hx; subst hx
          show (f.1 ^^^ g.1).testBit bit = false
          rw [Nat.testBit_xor, hb, hg.2]; rfl
      · intro j hj x hx
        rcases List.mem_append.1 hx with hx | hx
        · exact h.high j (fun y hy => hj y (List.mem_append_left _ hy)) x hx
        · simp at hx; subst hx
          show (f.1 ^^^ g.1).testBit j = false
          rw [Nat.testBit_xor, hj f (by simp), hj g (List.mem_append_left _ hg.1)]; rfl

theorem sift_fold {bit z : Nat} : ∀ (l p : List Fct) (st : List Fct × Option Fct), SiftOk bit z p st → Sized z l → SiftOk bit z (p ++ l) (l.foldl (siftStep bit) st)
  | [], p, st, h, _ => by rw [List.append_nil]; exact h
  | f :: l, p, st, h, hs => by
    have h1 := siftOk_step h f (hs f (by simp))
    have h2 := sift_fold l (p ++ [f]) _ h1 (fun x hx => hs x (List.mem_cons_of_mem _ hx))
    rw [List.append_assoc] at h2
    exact h2

theorem sift_ok (bit z : Nat) (l : List Fct) (hs : Sized z l) : SiftOk bit z l (sift bit l) := by
  have h := sift_fold (bit := bit) (z := z) l [] ([], none) ⟨fun x hx => by simp at hx, fun x hx => by simp at hx, fun x hx => by simp at hx, fun g hg => by simp at hg, fun x hx => by simp at hx, fun j _ x hx => by simp at hx⟩ hs
  exact h

/-- No bit from n on. -/
def Low (n : Nat) (l : List Fct) : Prop := ∀ f ∈ l, ∀ j, n ≤ j → f.1.testBit j = false

/-- Each step of the stairs begins at a bit below the one ahead of it: all below n, the last at m or above. -/
def Ech : Nat → List Fct → Nat → Prop
  | n, [], m => m ≤ n
  | n, f :: E, m => ∃ b, b < n ∧ f.1.testBit b = true ∧ (∀ j, b < j → f.1.testBit j = false) ∧ Ech b E m

theorem Ech.snoc {n m : Nat} {E : List Fct} (h : Ech n E m) {f : Fct} {b : Nat} (hb : b < m) (h1 : f.1.testBit b = true) (h2 : ∀ j, b < j → f.1.testBit j = false) : Ech n (E ++ [f]) b := by
  induction E generalizing n with
  | nil =>
    have : m ≤ n := h
    exact ⟨b, by omega, h1, h2, Nat.le_refl _⟩
  | cons g E ih =>
    obtain ⟨c, hc, hc1, hc2, he⟩ := h
    exact ⟨c, hc, hc1, hc2, ih he⟩

theorem Ech.weaken {n m m' : Nat} {E : List Fct} (h : Ech n E m) (hm : m' ≤ m) : Ech n E m' := by
  induction E generalizing n with
  | nil => have : m ≤ n := h
           show m' ≤ n
           omega
  | cons g E ih =>
    obtain ⟨c, hc, hc1, hc2, he⟩ := h
    exact ⟨c, hc, hc1, hc2, ih he⟩

/-- Where the stairs stand behind n bits. -/
structure StairOk (z : Nat) (l : List Fct) (n : Nat) : Prop where
  sized : Sized z ((stairsTo l n).1 ++ (stairsTo l n).2)
  to : ∀ f ∈ l, SpanF ((stairsTo l n).1 ++ (stairsTo l n).2) f.1 (byteAt f.2)
  back : ∀ f ∈ (stairsTo l n).1 ++ (stairsTo l n).2, SpanF l f.1 (byteAt f.2)
  low : Low (40 - n) (stairsTo l n).2
  ech : Ech 40 (stairsTo l n).1 (40 - n)

theorem stair_ok (z : Nat) (l : List Fct) (hs : Sized z l) (hl : Low 40 l) (n : Nat) (hn : n ≤ 40) : StairOk z l n := by
  induction n with
  | zero => exact ⟨hs, fun f hf => SpanF_mem (by exact hf), fun f hf => SpanF_mem (by exact hf), hl, Nat.le_refl _⟩
  | succ n ih =>
    have h := ih (by omega)
    have hk := sift_ok (39 - n) z (stairsTo l n).2 (fun x hx => h.sized x (List.mem_append_right _ hx))
    have hmem : ∀ x, x ∈ (stairsTo l (n + 1)).1 ++ (stairsTo l (n + 1)).2 ↔ x ∈ (stairsTo l n).1 ∨ x ∈ (sift (39 - n) (stairsTo l n).2).2.toList ++ (sift (39 - n) (stairsTo l n).2).1 := by
      intro x
      simp only [stairsTo, List.append_assoc]
      exact List.mem_append
    have hsub1 : ∀ {b : Nat} {v : Vec}, SpanF ((sift (39 - n) (stairsTo l n).2).2.toList ++ (sift (39 - n) (stairsTo l n).2).1) b v → SpanF ((stairsTo l (n + 1)).1 ++ (stairsTo l (n + 1)).2) b v := fun hb => SpanF_sub (fun y hy => (hmem y).2 (Or.inr hy)) hb
    refine ⟨?_, ?_, ?_, ?_, ?_⟩
    · intro x hx
      rcases (hmem x).1 hx with hx | hx
      · exact h.sized x (List.mem_append_left _ hx)
      · exact hk.sized x hx
    · intro f hf
      refine SpanF_of (fun g hg => ?_) (h.to f hf)
      rcases List.mem_append.1 hg with hg | hg
      · exact SpanF_mem ((hmem g).2 (Or.inl hg))
      · exact hsub1 (hk.to g hg)
    · intro f hf
      rcases (hmem f).1 hf with hf | hf
      · exact h.back f (List.mem_append_left _ hf)
      · exact SpanF_of (fun g hg => h.back g (List.mem_append_right _ hg)) (hk.back f hf)
    · intro f hf j hj
      have hf' : f ∈ (sift (39 - n) (stairsTo l n).2).1 := hf
      by_cases e : j = 39 - n
      · rw [e]; exact hk.rest f hf'
      · exact hk.high j (fun g hg => h.low g hg j (by omega)) f hf'
    · show Ech 40 ((stairsTo l n).1 ++ (sift (39 - n) (stairsTo l n).2).2.toList) (40 - (n + 1))
      cases hfd : (sift (39 - n) (stairsTo l n).2).2 with
      | none => simp only [Option.toList_none, List.append_nil]; exact h.ech.weaken (by omega)
      | some g =>
        have hg := hk.found g hfd
        have := h.ech.snoc (f := g) (b := 39 - n) (by omega) hg.2 (fun j hj => h.low g hg.1 j (by omega))
        rw [show 40 - (n + 1) = 39 - n from by omega]
        exact this

/-- The highest bit. -/
theorem log2_of {x b : Nat} (h1 : x.testBit b = true) (h2 : ∀ j, b < j → x.testBit j = false) : x ≠ 0 ∧ x.log2 = b := by
  have h0 : x ≠ 0 := by rintro rfl; simp at h1
  refine ⟨h0, ?_⟩
  have hlt : x < 2 ^ (b + 1) := Nat.lt_pow_two_of_testBit _ (fun j hj => h2 j (by omega))
  have hge : 2 ^ b ≤ x := Nat.ge_two_pow_of_testBit h1
  exact (Nat.log2_eq_iff h0).2 ⟨hge, hlt⟩

/-- Down the stairs: what has been taken off is a sum of the facts; no step's bit is left; bits from n on stay. -/
theorem tell_ok (z : Nat) : ∀ (E : List Fct) (n m : Nat) (st : Nat × ByteArray), Ech n E m → Sized z E → st.2.size = z →
    SpanF E (st.1 ^^^ (tell E st).1) (vx (byteAt st.2) (byteAt (tell E st).2)) ∧ (tell E st).2.size = z ∧ (∀ f ∈ E, (tell E st).1.testBit f.1.log2 = false) ∧ (∀ j, n ≤ j → (tell E st).1.testBit j = st.1.testBit j)
  | [], n, m, st, _, _, hz => ⟨⟨by show st.1 ^^^ st.1 = 0; exact Nat.xor_self _, vx_self _⟩, hz, fun f hf => by simp at hf, fun j _ => rfl⟩
  | f :: E, n, m, st, he, hs, hz => by
    obtain ⟨b, hbn, hb1, hb2, he'⟩ := he
    obtain ⟨hf0, hlog⟩ := log2_of hb1 hb2
    have hfz : f.2.size = z := hs f (by simp)
    have hsE : Sized z E := fun x hx => hs x (List.mem_cons_of_mem _ hx)
    by_cases hc : st.1.testBit b = true
    · have hstep : tellStep st f = (st.1 ^^^ f.1, xorB st.2 f.2) := by unfold tellStep; rw [hlog, if_pos ⟨hf0, hc⟩]
      have hz2 : (xorB st.2 f.2).size = z := by rw [xorB_size (by omega)]; exact hz
      obtain ⟨h1, h2, h3, h4⟩ := tell_ok z E b m (st.1 ^^^ f.1, xorB st.2 f.2) he' hsE hz2
      have ht : tell (f :: E) st = tell E (st.1 ^^^ f.1, xorB st.2 f.2) := by show tell E (tellStep st f) = _; rw [hstep]
      rw [ht]
      refine ⟨Or.inr ?_, h2, ?_, ?_⟩
      · rw [show st.1 ^^^ (tell E (st.1 ^^^ f.1, xorB st.2 f.2)).1 ^^^ f.1 = st.1 ^^^ f.1 ^^^ (tell E (st.1 ^^^ f.1, xorB st.2 f.2)).1 from xor_swap _ _ _, vx_swap, ← vec_xorB (by omega)]
        exact h1
      · intro g hg
        rcases List.mem_cons.1 hg with e | hg
        · subst e
          rw [hlog, h4 b (Nat.le_refl _)]
          show (st.1 ^^^ g.1).testBit b = false
          rw [Nat.testBit_xor, hc, hb1]; rfl
        · exact h3 g hg
      · intro j hj
        rw [h4 j (by omega)]
        show (st.1 ^^^ f.1).testBit j = st.1.testBit j
        rw [Nat.testBit_xor, hb2 j (by omega), Bool.xor_false]
    · have hstep : tellStep st f = st := by unfold tellStep; rw [hlog, if_neg (fun h => hc h.2)]
      obtain ⟨h1, h2, h3, h4⟩ := tell_ok z E b m st he' hsE hz
      have ht : tell (f :: E) st = tell E st := by show tell E (tellStep st f) = _; rw [hstep]
      rw [ht]
      refine ⟨Or.inl h1, h2, ?_, fun j hj => h4 j (by omega)⟩
      intro g hg
      rcases List.mem_cons.1 hg with e | hg
      · subst e
        rw [hlog, h4 b (Nat.le_refl _)]
        simpa using hc
      · exact h3 g hg

theorem sp_low (l : List Nat) (b : Nat) (h : ∀ f ∈ l, ∀ j, b ≤ j → f.testBit j = false) {x : Nat} (hx : sp l x) : ∀ j, b ≤ j → x.testBit j = false := by
  induction l generalizing x with
  | nil => have : x = 0 := hx
           subst this; intro j _; simp
  | cons f l ih =>
    have hl : ∀ g ∈ l, ∀ j, b ≤ j → g.testBit j = false := fun g hg => h g (List.mem_cons_of_mem _ hg)
    rcases hx with hx | hx
    · exact ih hl hx
    · intro j hj
      have h1 := ih hl hx j hj
      rw [Nat.testBit_xor, h f (by simp) j hj, Bool.xor_false] at h1
      exact h1

theorem ech_low {n m : Nat} {E : List Fct} (h : Ech n E m) : ∀ f ∈ E.map Prod.fst, ∀ j, n ≤ j → f.testBit j = false := by
  induction E generalizing n with
  | nil => intro f hf; simp at hf
  | cons g E ih =>
    obtain ⟨b, hb, h1, h2, he⟩ := h
    intro f hf j hj
    rcases List.mem_cons.1 hf with e | hf
    · subst e; exact h2 j (by omega)
    · exact ih he f hf j (by omega)

/-- A sum of the stairs that has no step's bit is nought. -/
theorem ech_zero {n m : Nat} {E : List Fct} (h : Ech n E m) {x : Nat} (hx : sp (E.map Prod.fst) x) (hn : ∀ f ∈ E, x.testBit f.1.log2 = false) : x = 0 := by
  induction E generalizing n with
  | nil => exact hx
  | cons g E ih =>
    obtain ⟨b, hb, h1, h2, he⟩ := h
    rcases hx with hx | hx
    · exact ih he hx (fun f hf => hn f (List.mem_cons_of_mem _ hf))
    · have h3 := sp_low _ b (ech_low he) hx b (Nat.le_refl _)
      have h4 := hn g (by simp)
      rw [(log2_of h1 h2).2] at h4
      rw [Nat.testBit_xor, h1, h4] at h3
      simp at h3

/-- The stairs' bits are independent. -/
theorem ech_indep {n m : Nat} {E : List Fct} (h : Ech n E m) : Indep (E.map Prod.fst) := by
  induction E generalizing n with
  | nil => exact True.intro
  | cons g E ih =>
    obtain ⟨b, hb, h1, h2, he⟩ := h
    refine ⟨fun hs => ?_, ih he⟩
    have := sp_low _ b (ech_low he) hs b (Nat.le_refl _)
    rw [h1] at this
    cases this

theorem tell_zeros : ∀ (R : List Fct) (st : Nat × ByteArray), (∀ f ∈ R, f.1 = 0) → tell R st = st
  | [], _, _ => rfl
  | f :: R, st, h => by
    have hf := h f (by simp)
    have hs : tellStep st f = st := by unfold tellStep; rw [if_neg (fun h => h.1 hf)]
    show tell R (tellStep st f) = st
    rw [hs]
    exact tell_zeros R st (fun x hx => h x (List.mem_cons_of_mem _ hx))

/-- The stairs whole: steps, and facts of no bits. -/
structure Steps (z : Nat) (l E R : List Fct) : Prop where
  sized : Sized z E
  to : ∀ f ∈ l, SpanF (E ++ R) f.1 (byteAt f.2)
  back : ∀ f ∈ E ++ R, SpanF l f.1 (byteAt f.2)
  zeros : ∀ f ∈ R, f.1 = 0
  ech : Ech 40 E 0

theorem stairsAll_ok (z : Nat) (l : List Fct) (hs : Sized z l) (hl : Low 40 l) (n : Nat) (hn : n = 40) : ∃ E R, stairsAll l n = E ++ R ∧ Steps z l E R := by
  have hk := stair_ok z l hs hl n (by omega)
  refine ⟨(stairsTo l n).1, (stairsTo l n).2, rfl, ?_⟩
  obtain ⟨h1, h2, h3, h4, h5⟩ := hk
  have e : 40 - n = 0 := by omega
  rw [e] at h4 h5
  exact ⟨fun f hf => h1 f (List.mem_append_left _ hf), h2, h3, fun f hf => Nat.eq_of_testBit_eq (fun j => by rw [h4 f hf j (Nat.zero_le _)]; simp), h5⟩

theorem stairs_ok (z : Nat) (l : List Fct) (hs : Sized z l) (hl : Low 40 l) : ∃ E R, stairs l = E ++ R ∧ Steps z l E R := by
  unfold stairs
  exact stairsAll_ok z l hs hl 40 rfl

/-- WHAT IS TOLD: it is told just where the bits are a sum of the facts', and then it is the facts' sum. -/
theorem told_ok (l : List Fct) (x z : Nat) (hs : Sized z l) (hl : Low 40 l) :
    ((told l x z).2 = true ↔ sp (l.map Prod.fst) x) ∧ ((told l x z).2 = true → SpanF l x (byteAt (told l x z).1)) ∧ (told l x z).1.size = z := by
  obtain ⟨E, R, hst, hk⟩ := stairs_ok z l hs hl
  unfold told
  rw [hst]
  clear hst
  have hE : tell (E ++ R) (x, zeroB z) = tell E (x, zeroB z) := by
    have h1 := tell_zeros R (tell E (x, zeroB z)) hk.zeros
    unfold tell at h1 ⊢
    rw [List.foldl_append]
    exact h1
  rw [hE]
  obtain ⟨h1, h2, h3, _⟩ := tell_ok z E 40 0 (x, zeroB z) hk.ech hk.sized (zeroB_size z)
  have hback : ∀ {b : Nat} {v : Vec}, SpanF E b v → SpanF l b v := fun hb => SpanF_of (fun f hf => hk.back f (List.mem_append_left _ hf)) hb
  have hto : sp (l.map Prod.fst) x → sp (E.map Prod.fst) x := fun h => by
    obtain ⟨v, hv⟩ := (sp_iff l x).1 h
    have h5 := (sp_iff _ x).2 ⟨v, SpanF_of (fun f hf => hk.to f hf) hv⟩
    refine sp_of (fun f hf => ?_) h5
    rw [List.map_append] at hf
    rcases List.mem_append.1 hf with hf | hf
    · exact sp_mem hf
    · obtain ⟨g, hg, rfl⟩ := List.mem_map.1 hf
      rw [hk.zeros g hg]; exact sp_zero _
  have h1' : SpanF E (x ^^^ (tell E (x, zeroB z)).1) (byteAt (tell E (x, zeroB z)).2) := by
    have h := h1
    rw [show byteAt (x, zeroB z).2 = v0 from vec_zeroB z, vx_comm, vx_zero] at h
    exact h
  generalize tell E (x, zeroB z) = r at *
  refine ⟨⟨fun h => ?_, fun h => ?_⟩, fun h => ?_, h2⟩
  · have h0 : r.1 = 0 := by simpa using h
    rw [h0, Nat.xor_zero] at h1'
    exact (sp_iff l x).2 ⟨_, hback h1'⟩
  · have h6 := (sp_iff _ _).2 ⟨_, h1'⟩
    have h7 := sp_xor (hto h) h6
    rw [← Nat.xor_assoc, Nat.xor_self, Nat.zero_xor] at h7
    have h8 := ech_zero hk.ech h7 h3
    simp [h8]
  · have h0 : r.1 = 0 := by simpa using h
    rw [h0, Nat.xor_zero] at h1'
    exact hback h1'

end Go.Proofs.Ytnjaofkieajnlaa

/- The spare pieces as plain lists: each row's last piece is the sum of the others; nothing of the program. -/
namespace Go.Proofs.Ytnjaofkieajnlaa

/-- The pieces that are known behind i rows. -/
def knownTo (data : List ByteArray) (rows : Nat → List Nat) (size : Nat) : Nat → List ByteArray
  | 0 => data
  | i + 1 => knownTo data rows size i ++ [sumB (knownTo data rows size i) (rows i) size]

theorem knownTo_length (data : List ByteArray) (rows : Nat → List Nat) (size i : Nat) : (knownTo data rows size i).length = data.length + i := by
  induction i with
  | zero => rfl
  | succ i ih => simp only [knownTo, List.length_append, ih, List.length_cons, List.length_nil]; omega

theorem knownTo_size {data : List ByteArray} {rows : Nat → List Nat} {size : Nat} (hd : ∀ x ∈ data, x.size = size) (i : Nat) : ∀ x ∈ knownTo data rows size i, x.size = size := by
  induction i with
  | zero => exact hd
  | succ i ih =>
    intro x hx
    simp only [knownTo, List.mem_append, List.mem_singleton] at hx
    rcases hx with hx | rfl
    · exact ih x hx
    · exact sumB_size ih _

theorem knownTo_drop (data : List ByteArray) (rows : Nat → List Nat) (size i : Nat) :
    (knownTo data rows size (i + 1)).drop data.length = (knownTo data rows size i).drop data.length ++ [sumB (knownTo data rows size i) (rows i) size] := by
  simp only [knownTo]
  rw [List.drop_append_of_le_length (by rw [knownTo_length]; omega)]

/-- Row i but for its last piece. -/
def rowHead (K M O S i : Nat) : List Nat := (dealt M O S K).2 i ++ (if 0 < i then [K + i - 1] else [])

theorem rowOf_head (K M O S i : Nat) : rowOf K M O S i = rowHead K M O S i ++ [K + i] := by simp [rowOf, rowHead]

theorem rowHead_lt (K M O S i : Nat) : ∀ j ∈ rowHead K M O S i, j < K + i := by
  intro j hj
  simp only [rowHead, List.mem_append] at hj
  rcases hj with hj | hj
  · have := dealt_mem M O S K i j hj; omega
  · split at hj
    · simp at hj; omega
    · simp at hj

theorem rowOf_lt (K M O S i : Nat) : ∀ j ∈ rowOf K M O S i, j ≤ K + i := by
  intro j hj
  rw [rowOf_head] at hj
  simp only [List.mem_append, List.mem_singleton] at hj
  rcases hj with hj | rfl
  · have := rowHead_lt K M O S i j hj; omega
  · omega

/-- The last piece of a row is not known yet: it adds nothing. -/
theorem sumB_head {P : List ByteArray} {K M O S i size : Nat} (h : P.length = K + i) : sumB P (rowOf K M O S i) size = sumB P (rowHead K M O S i) size := by
  rw [rowOf_head]
  unfold sumB
  rw [List.foldl_append]
  simp only [List.foldl_cons, List.foldl_nil]
  unfold addAt
  rw [if_neg (by omega)]

/-- The spare pieces of the word that has these data. -/
def sparesOf (K M O S : Nat) (data : List ByteArray) (size : Nat) : List ByteArray := (knownTo data (rowOf K M O S) size M).drop data.length

theorem sparesOf_length (K M O S : Nat) (data : List ByteArray) (size : Nat) : (sparesOf K M O S data size).length = M := by
  unfold sparesOf
  rw [List.length_drop, knownTo_length]; omega

theorem knownTo_split (data : List ByteArray) (rows : Nat → List Nat) (size i : Nat) : knownTo data rows size i = data ++ (knownTo data rows size i).drop data.length := by
  induction i with
  | zero => simp [knownTo]
  | succ i ih => rw [knownTo_drop, ← List.append_assoc, ← ih]; rfl

end Go.Proofs.Ytnjaofkieajnlaa

/- Words as plain lists: data and their spare pieces are a word; with one piece changed they are none. Nothing of the program. -/
namespace Go.Proofs.Ytnjaofkieajnlaa

theorem xorB_self (a : ByteArray) : xorB a a = zeroB a.size := by
  apply bytes_ext
  · rw [xorB_size rfl, zeroB_size]
  · intro i hi
    rw [xorB_size rfl] at hi
    rw [byteAt_xorB rfl i hi, byteAt_zeroB]
    exact UInt8.xor_self

/-- A sum looks at the pieces of its row alone. -/
theorem foldl_congr {P Q : List ByteArray} : ∀ (row : List Nat) (t : ByteArray), (∀ j ∈ row, ∀ t, addAt P t j = addAt Q t j) → row.foldl (addAt P) t = row.foldl (addAt Q) t
  | [], _, _ => rfl
  | j :: row, t, h => by
    simp only [List.foldl_cons]
    have h1 : addAt P t j = addAt Q t j := h j (by simp) t
    rw [h1]
    exact foldl_congr row _ (fun k hk => h k (by simp [hk]))

theorem knownTo_get (data : List ByteArray) (rows : Nat → List Nat) (size i n j : Nat) (h : i ≤ n) (hj : j < data.length + i) : (knownTo data rows size n).getD j ByteArray.empty = (knownTo data rows size i).getD j ByteArray.empty := by
  induction n with
  | zero => have : i = 0 := by omega
            subst this; rfl
  | succ n ih =>
    by_cases e : i = n + 1
    · subst e; rfl
    · rw [← ih (by omega)]
      simp only [knownTo]
      rw [List.getD_eq_getElem?_getD, List.getD_eq_getElem?_getD, List.getElem?_append_left (by rw [knownTo_length]; omega)]

theorem knownTo_last (data : List ByteArray) (rows : Nat → List Nat) (size i : Nat) : (knownTo data rows size (i + 1)).getD (data.length + i) ByteArray.empty = sumB (knownTo data rows size i) (rows i) size := by
  simp only [knownTo]
  rw [List.getD_eq_getElem?_getD, List.getElem?_append_right (by rw [knownTo_length]; omega), knownTo_length]
  simp

/-- Data and their spare pieces are a word. -/
theorem known_fits (K M O S : Nat) (data : List ByteArray) (size : Nat) (hd : ∀ x ∈ data, x.size = size) (hK : data.length = K) (i : Nat) (hi : i < M) :
    sumB (knownTo data (rowOf K M O S) size M) (rowOf K M O S i) size = zeroB size := by
  have hl : (knownTo data (rowOf K M O S) size M).length = K + M := by rw [knownTo_length, hK]
  have hli : (knownTo data (rowOf K M O S) size i).length = K + i := by rw [knownTo_length, hK]
  have h1 : sumB (knownTo data (rowOf K M O S) size M) (rowHead K M O S i) size = sumB (knownTo data (rowOf K M O S) size i) (rowHead K M O S i) size := by
    refine foldl_congr _ _ (fun j hj t => ?_)
    have hjl := rowHead_lt K M O S i j hj
    unfold addAt
    rw [if_pos (by omega), if_pos (by omega), knownTo_get data _ size i M j (by omega) (by omega)]
  have h2 : (knownTo data (rowOf K M O S) size M).getD (K + i) ByteArray.empty = sumB (knownTo data (rowOf K M O S) size i) (rowHead K M O S i) size := by
    rw [knownTo_get data _ size (i + 1) M (K + i) (by omega) (by omega), ← hK, knownTo_last, hK, sumB_head hli]
  have h3 : sumB (knownTo data (rowOf K M O S) size M) (rowOf K M O S i) size = addAt (knownTo data (rowOf K M O S) size M) (sumB (knownTo data (rowOf K M O S) size M) (rowHead K M O S i) size) (K + i) := by
    rw [rowOf_head]; unfold sumB; rw [List.foldl_append]; rfl
  rw [h3]
  unfold addAt
  rw [if_pos (by omega), h2, h1, xorB_self, sumB_size (knownTo_size hd i)]

/-- Byte k of a sum. -/
def byteSum (P : List ByteArray) (k : Nat) (x : UInt8) (row : List Nat) : UInt8 := row.foldl (fun x j => if j < P.length then x ^^^ byteAt (P.getD j ByteArray.empty) k else x) x

theorem byteAt_addAt {P : List ByteArray} {size : Nat} (hp : ∀ x ∈ P, x.size = size) (t : ByteArray) (ht : t.size = size) (j k : Nat) (hk : k < size) : byteAt (addAt P t j) k = if j < P.length then byteAt t k ^^^ byteAt (P.getD j ByteArray.empty) k else byteAt t k := by
  unfold addAt
  split
  · rename_i h
    have : (P.getD j ByteArray.empty).size = size := by
      rw [List.getD_eq_getElem?_getD, List.getElem?_eq_getElem h]
      exact hp _ (List.getElem_mem h)
    rw [byteAt_xorB (by omega) k (by omega)]
  · rfl

theorem byteAt_foldl {P : List ByteArray} {size : Nat} (hp : ∀ x ∈ P, x.size = size) (k : Nat) (hk : k < size) : ∀ (row : List Nat) (t : ByteArray), t.size = size → byteAt (row.foldl (addAt P) t) k = byteSum P k (byteAt t k) row
  | [], _, _ => rfl
  | j :: row, t, ht => by
    simp only [List.foldl_cons]
    rw [byteAt_foldl hp k hk row _ (addAt_size hp ht), byteAt_addAt hp t ht j k hk]
    rfl

theorem byteSum_shift (P : List ByteArray) (k : Nat) : ∀ (row : List Nat) (x y : UInt8), byteSum P k (x ^^^ y) row = byteSum P k x row ^^^ y
  | [], _, _ => rfl
  | j :: row, x, y => by
    show byteSum P k (if j < P.length then x ^^^ y ^^^ byteAt (P.getD j ByteArray.empty) k else x ^^^ y) row = byteSum P k (if j < P.length then x ^^^ byteAt (P.getD j ByteArray.empty) k else x) row ^^^ y
    split
    · rw [UInt8.xor_assoc, UInt8.xor_comm y, ← UInt8.xor_assoc, byteSum_shift P k row]
    · rw [byteSum_shift P k row]

/-- Where a row does not have piece j, another piece j changes nothing. -/
theorem byteSum_set_out (P : List ByteArray) (k j : Nat) (q : ByteArray) : ∀ (row : List Nat) (x : UInt8), j ∉ row → byteSum (P.set j q) k x row = byteSum P k x row
  | [], _, _ => rfl
  | i :: row, x, h => by
    simp only [List.mem_cons, not_or] at h
    show byteSum (P.set j q) k (if i < (P.set j q).length then x ^^^ byteAt ((P.set j q).getD i ByteArray.empty) k else x) row = byteSum P k (if i < P.length then x ^^^ byteAt (P.getD i ByteArray.empty) k else x) row
    rw [byteSum_set_out P k j q row _ h.2, List.length_set]
    congr 1
    split
    · congr 2
      rw [List.getD_eq_getElem?_getD, List.getD_eq_getElem?_getD, List.getElem?_set_ne (by omega)]
    · rfl

/-- Where it has it once, the sum changes as the piece does. -/
theorem byteSum_set_in (P : List ByteArray) (k j : Nat) (q : ByteArray) (hj : j < P.length) : ∀ (row : List Nat) (x : UInt8), row.Nodup → j ∈ row →
    byteSum (P.set j q) k x row = byteSum P k x row ^^^ (byteAt (P.getD j ByteArray.empty) k ^^^ byteAt q k)
  | [], _, _, h => by simp at h
  | i :: row, x, hn, h => by
    simp only [List.nodup_cons] at hn
    show byteSum (P.set j q) k (if i < (P.set j q).length then x ^^^ byteAt ((P.set j q).getD i ByteArray.empty) k else x) row = byteSum P k (if i < P.length then x ^^^ byteAt (P.getD i ByteArray.empty) k else x) row ^^^ _
    rw [List.length_set]
    by_cases e : i = j
    · subst e
      rw [if_pos hj, if_pos hj, byteSum_set_out P k i q row _ hn.1]
      have hq : (P.set i q).getD i ByteArray.empty = q := by rw [List.getD_eq_getElem?_getD, List.getElem?_set_self hj]; rfl
      rw [hq, ← byteSum_shift]
      congr 1
      rw [UInt8.xor_assoc, ← UInt8.xor_assoc (byteAt (P.getD i ByteArray.empty) k), UInt8.xor_self, UInt8.zero_xor]
    · have hm : j ∈ row := by simpa [show ¬ j = i from fun h => e h.symm] using h
      rw [byteSum_set_in P k j q hj row _ hn.2 hm]
      congr 2
      split
      · congr 2
        rw [List.getD_eq_getElem?_getD, List.getD_eq_getElem?_getD, List.getElem?_set_ne (by omega)]
      · rfl

/-- A word with one piece changed is none, in a row that has the piece once. -/
theorem changed_misfits {P : List ByteArray} {row : List Nat} {size j : Nat} {q : ByteArray} (hp : ∀ x ∈ P, x.size = size) (hj : j < P.length) (hn : row.Nodup) (hm : j ∈ row) (hq : q.size = size) (hne : q ≠ P.getD j ByteArray.empty)
    (hz : sumB P row size = zeroB size) : sumB (P.set j q) row size ≠ zeroB size := by
  intro hz2
  apply hne
  have hpj : (P.getD j ByteArray.empty).size = size := by
    rw [List.getD_eq_getElem?_getD, List.getElem?_eq_getElem hj]; exact hp _ (List.getElem_mem hj)
  have hp2 : ∀ x ∈ P.set j q, x.size = size := fun x hx => by
    rcases List.mem_or_eq_of_mem_set hx with h | h
    · exact hp x h
    · rw [h]; exact hq
  apply bytes_ext (by omega)
  intro k hk
  have hk' : k < size := by omega
  have e1 := byteAt_foldl hp k hk' row (zeroB size) (zeroB_size size)
  have e2 := byteAt_foldl hp2 k hk' row (zeroB size) (zeroB_size size)
  rw [byteSum_set_in P k j q hj row _ hn hm] at e2
  have z1 : byteAt (row.foldl (addAt P) (zeroB size)) k = 0 := by
    have : row.foldl (addAt P) (zeroB size) = zeroB size := hz
    rw [this, byteAt_zeroB]
  have z2 : byteAt (row.foldl (addAt (P.set j q)) (zeroB size)) k = 0 := by
    have : row.foldl (addAt (P.set j q)) (zeroB size) = zeroB size := hz2
    rw [this, byteAt_zeroB]
  rw [z1] at e1
  rw [z2, ← e1, UInt8.zero_xor] at e2
  have e3 : byteAt (P.getD j ByteArray.empty) k ^^^ byteAt q k = 0 := e2.symm
  have e4 : byteAt q k = byteAt (P.getD j ByteArray.empty) k ^^^ (byteAt (P.getD j ByteArray.empty) k ^^^ byteAt q k) := by
    rw [← UInt8.xor_assoc, UInt8.xor_self, UInt8.zero_xor]
  rw [e4, e3, UInt8.xor_zero]

/-- No piece is twice in a row. -/
theorem dealt_nodup (M O x j i : Nat) : ((dealt M O x j).2 i).Nodup := by
  induction j with
  | zero => simp [dealt]
  | succ j ih =>
    simp only [dealt]
    split
    · rw [List.nodup_append]
      refine ⟨ih, by simp, fun a ha b hb e => ?_⟩
      have := dealt_mem M O x j i a ha
      simp at hb
      omega
    · simpa using ih

theorem rowOf_nodup (K M O S i : Nat) : (rowOf K M O S i).Nodup := by
  rw [rowOf_head]
  rw [List.nodup_append]
  refine ⟨?_, by simp, fun a ha b hb e => ?_⟩
  · unfold rowHead
    rw [List.nodup_append]
    refine ⟨dealt_nodup M O S K i, ?_, fun a ha b hb e => ?_⟩
    · split <;> simp
    · have := dealt_mem M O S K i a ha
      split at hb
      · simp at hb; omega
      · simp at hb
  · have := rowHead_lt K M O S i a ha
    simp at hb
    omega

/-- Some row is chosen. -/
theorem drawn_some (M x O : Nat) (h1 : 1 ≤ O) (h2 : O ≤ M) : ∃ r, r < M ∧ (drawn M x O).2 r = true := by
  refine Classical.byContradiction fun hno => ?_
  have hall : ∀ r, r < M → (drawn M x O).2 r = false := fun r hr => by
    cases h : (drawn M x O).2 r
    · rfl
    · exact absurd ⟨r, hr, h⟩ hno
  have ho := drawn_open M x O h2
  have : opens (drawn M x O).2 M = List.range M := by
    unfold opens
    rw [List.filter_eq_self]
    intro r hr
    rw [hall r (List.mem_range.1 hr)]; rfl
  rw [this, List.length_range] at ho
  omega

theorem dealt_has (M O x j n : Nat) (hj : j < n) (h1 : 1 ≤ O) (h2 : O ≤ M) : ∃ r, r < M ∧ j ∈ (dealt M O x n).2 r := by
  induction n with
  | zero => omega
  | succ n ih =>
    by_cases e : j = n
    · subst e
      obtain ⟨r, hr, hc⟩ := drawn_some M (dealt M O x j).1 O h1 h2
      exact ⟨r, hr, by simp [dealt, hc]⟩
    · obtain ⟨r, hr, hm⟩ := ih (by omega)
      exact ⟨r, hr, by simp [dealt, hm]⟩

/-- Each piece is in a row. -/
theorem in_row (K M O S j : Nat) (hj : j < K + M) (h1 : 1 ≤ O) (h2 : O ≤ M) : ∃ r, r < M ∧ j ∈ rowOf K M O S r := by
  by_cases h : j < K
  · obtain ⟨r, hr, hm⟩ := dealt_has M O S j K h h1 h2
    exact ⟨r, hr, by simp [rowOf, hm]⟩
  · refine ⟨j - K, by omega, ?_⟩
    rw [rowOf_head]
    simp
    omega

end Go.Proofs.Ytnjaofkieajnlaa
