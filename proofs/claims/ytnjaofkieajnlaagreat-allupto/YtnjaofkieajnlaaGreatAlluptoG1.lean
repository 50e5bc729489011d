/- Texts of the proof, part 2. -/
import Derived.Test.YtnjaofkieajnlaaGreatAlluptoG0

/- The document's own way to what follows: facts in stairs, and what they tell; that it tells just the sums of the facts. Nothing of the program. -/
namespace Go.Proofs.YtnjaofkieajnlaaGreat

/-- Bytes by the index. -/
abbrev Vec := Nat → UInt8
def vx (a b : Vec) : Vec := fun i => a i ^^^ b i
def v0 : Vec := fun _ => 0

theorem vx_comm (a b : Vec) : vx a b = vx b a := by funext i; exact UInt8.xor_comm _ _
theorem vx_assoc (a b c : Vec) : vx (vx a b) c = vx a (vx b c) := by funext i; exact UInt8.xor_assoc _ _ _
theorem vx_self (a : Vec) : vx a a = v0 := by funext i; exact UInt8.xor_self
theorem vx_zero (a : Vec) : vx a v0 = a := by funext i; exact UInt8.xor_zero
theorem vx_cancel (a b : Vec) : vx (vx a b) b = a := by rw [vx_assoc, vx_self, vx_zero]
theorem vx_swap (a b c : Vec) : vx (vx a b) c = vx (vx a c) b := by rw [vx_assoc, vx_comm b c, ← vx_assoc]

/-- A piece's bytes, noughts behind its end. -/
theorem byteAt_out (a : ByteArray) (i : Nat) (h : a.size ≤ i) : byteAt a i = 0 := by
  unfold byteAt
  rw [List.getD_eq_getElem?_getD, List.getElem?_eq_none (by simpa using h)]; rfl

theorem vec_xorB {a b : ByteArray} (h : a.size = b.size) : byteAt (xorB a b) = vx (byteAt a) (byteAt b) := by
  funext i
  by_cases hi : i < a.size
  · exact byteAt_xorB h i hi
  · show byteAt (xorB a b) i = byteAt a i ^^^ byteAt b i
    rw [byteAt_out _ i (by rw [xorB_size h]; omega), byteAt_out a i (by omega), byteAt_out b i (by omega)]
    rfl

theorem vec_zeroB (n : Nat) : byteAt (zeroB n) = v0 := by funext i; exact byteAt_zeroB n i

theorem vec_inj {a b : ByteArray} (h : a.size = b.size) (he : byteAt a = byteAt b) : a = b := bytes_ext h (fun i _ => by rw [he])

/-- A fact: the sum of some pieces (bits) is this. -/
abbrev Fct := Nat × ByteArray

/-- The sums of facts. -/
def SpanF : List Fct → Nat → Vec → Prop
  | [], b, v => b = 0 ∧ v = v0
  | f :: l, b, v => SpanF l b v ∨ SpanF l (b ^^^ f.1) (vx v (byteAt f.2))

theorem SpanF_zero (l : List Fct) : SpanF l 0 v0 := by
  induction l with
  | nil => exact ⟨rfl, rfl⟩
  | cons f l ih => exact Or.inl ih

theorem SpanF_xor {l : List Fct} {a b : Nat} {u v : Vec} (ha : SpanF l a u) (hb : SpanF l b v) : SpanF l (a ^^^ b) (vx u v) := by
  induction l generalizing a b u v with
  | nil =>
    obtain ⟨h1, h2⟩ := ha
    obtain ⟨h3, h4⟩ := hb
    subst h1 h2 h3 h4
    exact ⟨rfl, vx_zero _⟩
  | cons f l ih =>
    rcases ha with ha | ha <;> rcases hb with hb | hb
    · exact Or.inl (ih ha hb)
    · refine Or.inr ?_
      have := ih ha hb
      rwa [← Nat.xor_assoc, ← vx_assoc] at this
    · refine Or.inr ?_
      have := ih ha hb
      rwa [xor_swap, vx_swap] at this
    · refine Or.inl ?_
      have := ih ha hb
      rwa [Nat.xor_assoc, ← Nat.xor_assoc f.1 b f.1, Nat.xor_comm f.1 b, xor_cancel, vx_assoc, ← vx_assoc (byteAt f.2) v (byteAt f.2), vx_comm (byteAt f.2) v, vx_cancel] at this

theorem SpanF_mem {l : List Fct} {f : Fct} (h : f ∈ l) : SpanF l f.1 (byteAt f.2) := by
  induction l with
  | nil => simp at h
  | cons g l ih =>
    rcases List.mem_cons.1 h with h | h
    · subst h; refine Or.inr ?_; rw [Nat.xor_self, vx_self]; exact SpanF_zero l
    · exact Or.inl (ih h)

theorem SpanF_of {l l' : List Fct} (h : ∀ f ∈ l, SpanF l' f.1 (byteAt f.2)) {b : Nat} {v : Vec} (hb : SpanF l b v) : SpanF l' b v := by
  induction l generalizing b v with
  | nil => obtain ⟨h1, h2⟩ := hb
           subst h1 h2; exact SpanF_zero l'
  | cons f l ih =>
    have hl : ∀ g ∈ l, SpanF l' g.1 (byteAt g.2) := fun g hg => h g (List.mem_cons_of_mem _ hg)
    rcases hb with hb | hb
    · exact ih hl hb
    · have h1 := SpanF_xor (ih hl hb) (h f (by simp))
      rwa [xor_cancel, vx_cancel] at h1

theorem SpanF_sub {l l' : List Fct} (h : ∀ f ∈ l, f ∈ l') {b : Nat} {v : Vec} (hb : SpanF l b v) : SpanF l' b v := SpanF_of (fun f hf => SpanF_mem (h f hf)) hb

/-- The bits of the sums. -/
theorem sp_iff (l : List Fct) (b : Nat) : sp (l.map Prod.fst) b ↔ ∃ v, SpanF l b v := by
  induction l generalizing b with
  | nil => exact ⟨fun h => ⟨v0, h, rfl⟩, fun ⟨_, h, _⟩ => h⟩
  | cons f l ih =>
    show sp (l.map Prod.fst) b ∨ sp (l.map Prod.fst) (b ^^^ f.1) ↔ _
    constructor
    · rintro (h | h)
      · obtain ⟨v, hv⟩ := (ih b).1 h
        exact ⟨v, Or.inl hv⟩
      · obtain ⟨v, hv⟩ := (ih _).1 h
        exact ⟨vx v (byteAt f.2), Or.inr (by rwa [vx_cancel])⟩
    · rintro ⟨v, h | h⟩
      · exact Or.inl ((ih b).2 ⟨v, h⟩)
      · exact Or.inr ((ih _).2 ⟨_, h⟩)

/-- Facts that do not speak against each other. -/
def Sound (l : List Fct) : Prop := ∀ v, SpanF l 0 v → v = v0

theorem Sound.one {l : List Fct} (h : Sound l) {b : Nat} {u v : Vec} (hu : SpanF l b u) (hv : SpanF l b v) : u = v := by
  have h1 := SpanF_xor hu hv
  rw [Nat.xor_self] at h1
  have h2 := h _ h1
  have h3 : vx (vx u v) v = vx v0 v := by rw [h2]
  rwa [vx_cancel, vx_comm, vx_zero] at h3

/-- A fact of bits that are no sum may be added, whatever it says. -/
theorem Sound.add {l : List Fct} (h : Sound l) (f : Fct) (hf : ¬ sp (l.map Prod.fst) f.1) : Sound (f :: l) := by
  rintro v (hv | hv)
  · exact h v hv
  · refine absurd ((sp_iff l _).2 ⟨_, hv⟩) ?_
    rw [Nat.zero_xor]; exact hf

/-- One step of looking for a fact that has the bit. -/
def siftStep (bit : Nat) (st : List Fct × Option Fct) (f : Fct) : List Fct × Option Fct :=
  if f.1.testBit bit then
    match st.2 with
    | none => (st.1, some f)
    | some g => (st.1 ++ [(f.1 ^^^ g.1, xorB f.2 g.2)], some g)
  else (st.1 ++ [f], st.2)

def sift (bit : Nat) (l : List Fct) : List Fct × Option Fct := l.foldl (siftStep bit) ([], none)

/-- The stairs behind n bits, from bit 39 down, and what is left. -/
def stairsTo (l : List Fct) : Nat → List Fct × List Fct
  | 0 => ([], l)
  | n + 1 => ((stairsTo l n).1 ++ (sift (39 - n) (stairsTo l n).2).2.toList, (sift (39 - n) (stairsTo l n).2).1)

def stairsAll (l : List Fct) (n : Nat) : List Fct := (stairsTo l n).1 ++ (stairsTo l n).2

def stairs (l : List Fct) : List Fct := stairsAll l 40

/-- One step down the stairs. -/
def tellStep (st : Nat × ByteArray) (f : Fct) : Nat × ByteArray :=
  if f.1 ≠ 0 ∧ st.1.testBit f.1.log2 = true then (st.1 ^^^ f.1, xorB st.2 f.2) else st

def tell (E : List Fct) (st : Nat × ByteArray) : Nat × ByteArray := E.foldl tellStep st

/-- What the facts say of the sum of some pieces; false: nothing. -/
def told (l : List Fct) (bits z : Nat) : ByteArray × Bool := ((tell (stairs l) (bits, zeroB z)).2, (tell (stairs l) (bits, zeroB z)).1 == 0)

/-- All sums of a list are of one size. -/
def Sized (z : Nat) (l : List Fct) : Prop := ∀ f ∈ l, f.2.size = z

/-- What a sift keeps, over a part of the list that it has seen. -/
structure SiftOk (bit z : Nat) (p : List Fct) (st : List Fct × Option Fct) : Prop where
  sized : Sized z (st.2.toList ++ st.1)
  to : ∀ f ∈ p, SpanF (st.2.toList ++ st.1) f.1 (byteAt f.2)
  back : ∀ f ∈ st.2.toList ++ st.1, SpanF p f.1 (byteAt f.2)
  found : ∀ g, st.2 = some g → g ∈ p ∧ g.1.testBit bit = true
  rest : ∀ f ∈ st.1, f.1.testBit bit = false
  high : ∀ j, (∀ f ∈ p, f.1.testBit j = false) → ∀ f ∈ st.1, f.1.testBit j = false

theorem siftOk_step {bit z : Nat} {p : List Fct} {st : List Fct × Option Fct} (h : SiftOk bit z p st) (f : Fct) (hf : f.2.size = z) : SiftOk bit z (p ++ [f]) (siftStep bit st f) := by
  obtain ⟨rest, found⟩ := st
  have hback : ∀ x ∈ found.toList ++ rest, SpanF (p ++ [f]) x.1 (byteAt x.2) := fun x hx => SpanF_sub (fun y hy => List.mem_append_left _ hy) (h.back x hx)
  have hfp : SpanF (p ++ [f]) f.1 (byteAt f.2) := SpanF_mem (by simp)
  unfold siftStep
  cases hb : f.1.testBit bit
  · simp only [Bool.false_eq_true, if_false]
    refine ⟨?_, ?_, ?_, ?_, ?_, ?_⟩
    · intro x hx
      rw [← List.append_assoc] at hx
      rcases List.mem_append.1 hx with hx | hx
      · exact h.sized x hx
      · simp at hx; subst hx; exact hf
    · intro x hx
      rw [← List.append_assoc]
      rcases List.mem_append.1 hx with hx | hx
      · exact SpanF_sub (fun y hy => List.mem_append_left _ hy) (h.to x hx)
      · simp at hx; subst hx; exact SpanF_mem (by simp)
    · intro x hx
      rw [← List.append_assoc] at hx
      rcases List.mem_append.1 hx with hx | hx
      · exact hback x hx
      · simp at hx; subst hx; exact hfp
    · intro g hg
      have := h.found g hg
      exact ⟨List.mem_append_left _ this.1, this.2⟩
    · intro x hx
      rcases List.mem_append.1 hx with hx | hx
      · exact h.rest x hx
      · simp at hx; subst hx; exact hb
    · intro j hj x hx
      rcases List.mem_append.1 hx with hx | hx
      · exact h.high j (fun y hy => hj y (List.mem_append_left _ hy)) x hx
      · simp at hx; subst hx; exact hj _ (by simp)
  · simp only [if_true]
    cases found with
    | none =>
      refine ⟨?_, ?_, ?_, ?_, h.rest, ?_⟩
      · intro x hx
        rcases List.mem_cons.1 (show x ∈ f :: rest from hx) with hx | hx
        · subst hx; exact hf
        · exact h.sized x hx
      · intro x hx
        show SpanF (f :: rest) _ _
        rcases List.mem_append.1 hx with hx | hx
        · exact Or.inl (h.to x hx)
        · simp at hx; subst hx; exact SpanF_mem (by simp)
      · intro x hx
        rcases List.mem_cons.1 (show x ∈ f :: rest from hx) with hx | hx
        · subst hx; exact hfp
        · exact hback x hx
      · intro g hg
        simp at hg; subst hg
        exact ⟨by simp, hb⟩
      · intro j hj x hx
        exact h.high j (fun y hy => hj y (List.mem_append_left _ hy)) x hx
    | some g =>
      have hg := h.found g rfl
      have hgz : g.2.size = z := h.sized g (by simp)
      have hv : byteAt (xorB f.2 g.2) = vx (byteAt f.2) (byteAt g.2) := vec_xorB (by omega)
      refine ⟨?_, ?_, ?_, ?_, ?_, ?_⟩
      · intro x hx
        rw [← List.append_assoc] at hx
        rcases List.mem_append.1 hx with hx | hx
        · exact h.sized x hx
        · simp at hx; subst hx; show (xorB f.2 g.2).size = z; rw [xorB_size (by omega)]; exact hf
      · intro x hx
        rw [← List.append_assoc]
        rcases List.mem_append.1 hx with hx | hx
        · exact SpanF_sub (fun y hy => List.mem_append_left _ hy) (h.to x hx)
        · simp at hx; subst hx
          have h1 : SpanF ((some g).toList ++ rest ++ [(x.1 ^^^ g.1, xorB x.2 g.2)]) (x.1 ^^^ g.1) (byteAt (xorB x.2 g.2)) := SpanF_mem (f := (x.1 ^^^ g.1, xorB x.2 g.2)) (by simp)
          have h2 : SpanF ((some g).toList ++ rest ++ [(x.1 ^^^ g.1, xorB x.2 g.2)]) g.1 (byteAt g.2) := SpanF_mem (by simp)
          have h3 := SpanF_xor h1 h2
          rw [xor_cancel, hv, vx_cancel] at h3
          exact h3
      · intro x hx
        rw [← List.append_assoc] at hx
        rcases List.mem_append.1 hx with hx | hx
        · exact hback x hx
        · simp at hx; subst hx
          show SpanF _ (f.1 ^^^ g.1) (byteAt (xorB f.2 g.2))
          rw [hv]
          exact SpanF_xor hfp (hback g (by simp))
      · intro g' hg'
        simp at hg'; subst hg'
        exact ⟨List.mem_append_left _ hg.1, hg.2⟩
      · intro x hx
        rcases List.mem_append.1 hx with hx | hx
        · exact h.rest x hx
        · simp at hx; subst hx
          show (f.1 ^^^ g.1).testBit bit = false
          rw [Nat.testBit_xor, hb, hg.2]; rfl
      · intro j hj x hx
        rcases List.mem_append.1 hx with hx | hx
        · exact h.high j (fun y hy => hj y (List.mem_append_left _ hy)) x hx
        · simp at hx; subst hx
          show (f.1 ^^^ g.1).testBit j = false
          rw [Nat.testBit_xor, hj f (by simp), hj g (List.mem_append_left _ hg.1)]; rfl

theorem sift_fold {bit z : Nat} : ∀ (l p : List Fct) (st : List Fct × Option Fct), SiftOk bit z p st → Sized z l → SiftOk bit z (p ++ l) (l.foldl (siftStep bit) st)
  | [], p, st, h, _ => by rw [List.append_nil]; exact h
  | f :: l, p, st, h, hs => by
    have h1 := siftOk_step h f (hs f (by simp))
    have h2 := sift_fold l (p ++ [f]) _ h1 (fun x hx => hs x (List.mem_cons_of_mem _ hx))
    rw [List.append_assoc] at h2
    exact h2

theorem sift_ok (bit z : Nat) (l : List Fct) (hs : Sized z l) : SiftOk bit z l (sift bit l) := by
  have h := sift_fold (bit := bit) (z := z) l [] ([], none) ⟨fun x hx => by simp at hx, fun x hx => by simp at hx, fun x hx => by simp at hx, fun g hg => by simp at hg, fun x hx => by simp at hx, fun j _ x hx => by simp at hx⟩ hs
  exact h

/-- No bit from n on. -/
def Low (n : Nat) (l : List Fct) : Prop := ∀ f ∈ l, ∀ j, n ≤ j → f.1.testBit j = false

/-- Each step of the stairs begins at a bit below the one ahead of it: all below n, the last at m or above. -/
def Ech : Nat → List Fct → Nat → Prop
  | n, [], m => m ≤ n
  | n, f :: E, m => ∃ b, b < n ∧ f.1.testBit b = true ∧ (∀ j, b < j → f.1.testBit j = false) ∧ Ech b E m

theorem Ech.snoc {n m : Nat} {E : List Fct} (h : Ech n E m) {f : Fct} {b : Nat} (hb : b < m) (h1 : f.1.testBit b = true) (h2 : ∀ j, b < j → f.1.testBit j = false) : Ech n (E ++ [f]) b := by
  induction E generalizing n with
  | nil =>
    have : m ≤ n := h
    exact ⟨b, by omega, h1, h2, Nat.le_refl _⟩
  | cons g E ih =>
    obtain ⟨c, hc, hc1, hc2, he⟩ := h
    exact ⟨c, hc, hc1, hc2, ih he⟩

theorem Ech.weaken {n m m' : Nat} {E : List Fct} (h : Ech n E m) (hm : m' ≤ m) : Ech n E m' := by
  induction E generalizing n with
  | nil => have : m ≤ n := h
           show m' ≤ n
           omega
  | cons g E ih =>
    obtain ⟨c, hc, hc1, hc2, he⟩ := h
    exact ⟨c, hc, hc1, hc2, ih he⟩

/-- Where the stairs stand behind n bits. -/
structure StairOk (z : Nat) (l : List Fct) (n : Nat) : Prop where
  sized : Sized z ((stairsTo l n).1 ++ (stairsTo l n).2)
  to : ∀ f ∈ l, SpanF ((stairsTo l n).1 ++ (stairsTo l n).2) f.1 (byteAt f.2)
  back : ∀ f ∈ (stairsTo l n).1 ++ (stairsTo l n).2, SpanF l f.1 (byteAt f.2)
  low : Low (40 - n) (stairsTo l n).2
  ech : Ech 40 (stairsTo l n).1 (40 - n)

theorem stair_ok (z : Nat) (l : List Fct) (hs : Sized z l) (hl : Low 40 l) (n : Nat) (hn : n ≤ 40) : StairOk z l n := by
  induction n with
  | zero => exact ⟨hs, fun f hf => SpanF_mem (by exact hf), fun f hf => SpanF_mem (by exact hf), hl, Nat.le_refl _⟩
  | succ n ih =>
    have h := ih (by omega)
    have hk := sift_ok (39 - n) z (stairsTo l n).2 (fun x hx => h.sized x (List.mem_append_right _ hx))
    have hmem : ∀ x, x ∈ (stairsTo l (n + 1)).1 ++ (stairsTo l (n + 1)).2 ↔ x ∈ (stairsTo l n).1 ∨ x ∈ (sift (39 - n) (stairsTo l n).2).2.toList ++ (sift (39 - n) (stairsTo l n).2).1 := by
      intro x
      simp only [stairsTo, List.append_assoc]
      exact List.mem_append
    have hsub1 : ∀ {b : Nat} {v : Vec}, SpanF ((sift (39 - n) (stairsTo l n).2).2.toList ++ (sift (39 - n) (stairsTo l n).2).1) b v → SpanF ((stairsTo l (n + 1)).1 ++ (stairsTo l (n + 1)).2) b v := fun hb => SpanF_sub (fun y hy => (hmem y).2 (Or.inr hy)) hb
    refine ⟨?_, ?_, ?_, ?_, ?_⟩
    · intro x hx
      rcases (hmem x).1 hx with hx | hx
      · exact h.sized x (List.mem_append_left _ hx)
      · exact hk.sized x hx
    · intro f hf
      refine SpanF_of (fun g hg => ?_) (h.to f hf)
      rcases List.mem_append.1 hg with hg | hg
      · exact SpanF_mem ((hmem g).2 (Or.inl hg))
      · exact hsub1 (hk.to g hg)
    · intro f hf
      rcases (hmem f).1 hf with hf | hf
      · exact h.back f (List.mem_append_left _ hf)
      · exact SpanF_of (fun g hg => h.back g (List.mem_append_right _ hg)) (hk.back f hf)
    · intro f hf j hj
      have hf' : f ∈ (sift (39 - n) (stairsTo l n).2).1 := hf
      by_cases e : j = 39 - n
      · rw [e]; exact hk.rest f hf'
      · exact hk.high j (fun g hg => h.low g hg j (by omega)) f hf'
    · show Ech 40 ((stairsTo l n).1 ++ (sift (39 - n) (stairsTo l n).2).2.toList) (40 - (n + 1))
      cases hfd : (sift (39 - n) (stairsTo l n).2).2 with
      | none => simp only [Option.toList_none, List.append_nil]; exact h.ech.weaken (by omega)
      | some g =>
        have hg := hk.found g hfd
        have := h.ech.snoc (f := g) (b := 39 - n) (by omega) hg.2 (fun j hj => h.low g hg.1 j (by omega))
        rw [show 40 - (n + 1) = 39 - n from by omega]
        exact this

/-- The highest bit. -/
theorem log2_of {x b : Nat} (h1 : x.testBit b = true) (h2 : ∀ j, b < j → x.testBit j = false) : x ≠ 0 ∧ x.log2 = b := by
  have h0 : x ≠ 0 := by rintro rfl; simp at h1
  refine ⟨h0, ?_⟩
  have hlt : x < 2 ^ (b + 1) := Nat.lt_pow_two_of_testBit _ (fun j hj => h2 j (by omega))
  have hge : 2 ^ b ≤ x := Nat.ge_two_pow_of_testBit h1
  exact (Nat.log2_eq_iff h0).2 ⟨hge, hlt⟩

/-- Down the stairs: what has been taken off is a sum of the facts; no step's bit is left; bits from n on stay. -/
theorem tell_ok (z : Nat) : ∀ (E : List Fct) (n m : Nat) (st : Nat × ByteArray), Ech n E m → Sized z E → st.2.size = z →
    SpanF E (st.1 ^^^ (tell E st).1) (vx (byteAt st.2) (byteAt (tell E st).2)) ∧ (tell E st).2.size = z ∧ (∀ f ∈ E, (tell E st).1.testBit f.1.log2 = false) ∧ (∀ j, n ≤ j → (tell E st).1.testBit j = st.1.testBit j)
  | [], n, m, st, _, _, hz => ⟨⟨by show st.1 ^^^ st.1 = 0; exact Nat.xor_self _, vx_self _⟩, hz, fun f hf => by simp at hf, fun j _ => rfl⟩
  | f :: E, n, m, st, he, hs, hz => by
    obtain ⟨b, hbn, hb1, hb2, he'⟩ := he
    obtain ⟨hf0, hlog⟩ := log2_of hb1 hb2
    have hfz : f.2.size = z := hs f (by simp)
    have hsE : Sized z E := fun x hx => hs x (List.mem_cons_of_mem _ hx)
    by_cases hc : st.1.testBit b = true
    · have hstep : tellStep st f = (st.1 ^^^ f.1, xorB st.2 f.2) := by unfold tellStep; rw [hlog, if_pos ⟨hf0, hc⟩]
      have hz2 : (xorB st.2 f.2).size = z := by rw [xorB_size (by omega)]; exact hz
      obtain ⟨h1, h2, h3, h4⟩ := tell_ok z E b m (st.1 ^^^ f.1, xorB st.2 f.2) he' hsE hz2
      have ht : tell (f :: E) st = tell E (st.1 ^^^ f.1, xorB st.2 f.2) := by show tell E (tellStep st f) = _; rw [hstep]
      rw [ht]
      refine ⟨Or.inr ?_, h2, ?_, ?_⟩
      · rw [show st.1 ^^^ (tell E (st.1 ^^^ f.1, xorB st.2 f.2)).1 ^^^ f.1 = st.1 ^^^ f.1 ^^^ (tell E (st.1 ^^^ f.1, xorB st.2 f.2)).1 from xor_swap _ _ _, vx_swap, ← vec_xorB (by omega)]
        exact h1
      · intro g hg
        rcases List.mem_cons.1 hg with e | hg
        · subst e
          rw [hlog, h4 b (Nat.le_refl _)]
          show (st.1 ^^^ g.1).testBit b = false
          rw [Nat.testBit_xor, hc, hb1]; rfl
        · exact h3 g hg
      · intro j hj
        rw [h4 j (by omega)]
        show (st.1 ^^^ f.1).testBit j = st.1.testBit j
        rw [Nat.testBit_xor, hb2 j (by omega), Bool.xor_false]
    · have hstep : tellStep st f = st := by unfold tellStep; rw [hlog, if_neg (fun h => hc h.2)]
      obtain ⟨h1, h2, h3, h4⟩ := tell_ok z E b m st he' hsE hz
      have ht : tell (f :: E) st = tell E st := by show tell E (tellStep st f) = _; rw [hstep]
      rw [ht]
      refine ⟨Or.inl h1, h2, ?_, fun j hj => h4 j (by omega)⟩
      intro g hg
      rcases List.mem_cons.1 hg with e | hg
      · subst e
        rw [hlog, h4 b (Nat.le_refl _)]
        simpa using hc
      · exact h3 g hg

theorem sp_low (l : List Nat) (b : Nat) (h : ∀ f ∈ l, ∀ j, b ≤ j → f.testBit j = false) {x : Nat} (hx : sp l x) : ∀ j, b ≤ j → x.testBit j = false := by
  induction l generalizing x with
  | nil => have : x = 0 := hx
           subst this; intro j _; simp
  | cons f l ih =>
    have hl : ∀ g ∈ l, ∀ j, b ≤ j → g.testBit j = false := fun g hg => h g (List.mem_cons_of_mem _ hg)
    rcases hx with hx | hx
    · exact ih hl hx
    · intro j hj
      have h1 := ih hl hx j hj
      rw [Nat.testBit_xor, h f (by simp) j hj, Bool.xor_false] at h1
      exact h1

theorem ech_low {n m : Nat} {E : List Fct} (h : Ech n E m) : ∀ f ∈ E.map Prod.fst, ∀ j, n ≤ j → f.testBit j = false := by
  induction E generalizing n with
  | nil => intro f hf; simp at hf
  | cons g E ih =>
    obtain ⟨b, hb, h1, h2, he⟩ := h
    intro f hf j hj
    rcases List.mem_cons.1 hf with e | hf
    · subst e; exact h2 j (by omega)
    · exact ih he f hf j (by omega)

/-- A sum of the stairs that has no step's bit is nought. -/
theorem ech_zero {n m : Nat} {E : List Fct} (h : Ech n E m) {x : Nat} (hx : sp (E.map Prod.fst) x) (hn : ∀ f ∈ E, x.testBit f.1.log2 = false) : x = 0 := by
  induction E generalizing n with
  | nil => exact hx
  | cons g E ih =>
    obtain ⟨b, hb, h1, h2, he⟩ := h
    rcases hx with hx | hx
    · exact ih he hx (fun f hf => hn f (List.mem_cons_of_mem _ hf))
    · have h3 := sp_low _ b (ech_low he) hx b (Nat.le_refl _)
      have h4 := hn g (by simp)
      rw [(log2_of h1 h2).2] at h4
      rw [Nat.testBit_xor, h1, h4] at h3
      simp at h3

/-- The stairs' bits are independent. -/
theorem ech_indep {n m : Nat} {E : List Fct} (h : Ech n E m) : Indep (E.map Prod.fst) := by
  induction E generalizing n with
  | nil => exact True.intro
  | cons g E ih =>
    obtain ⟨b, hb, h1, h2, he⟩ := h
    refine ⟨fun hs => ?_, ih he⟩
    have := sp_low _ b (ech_low he) hs b (Nat.le_refl _)
    rw [h1] at this
    cases this

theorem tell_zeros : ∀ (R : List Fct) (st : Nat × ByteArray), (∀ f ∈ R, f.1 = 0) → tell R st = st
  | [], _, _ => rfl
  | f :: R, st, h => by
    have hf := h f (by simp)
    have hs : tellStep st f = st := by unfold tellStep; rw [if_neg (fun h => h.1 hf)]
    show tell R (tellStep st f) = st
    rw [hs]
    exact tell_zeros R st (fun x hx => h x (List.mem_cons_of_mem _ hx))

/-- The stairs whole: steps, and facts of no bits. -/
structure Steps (z : Nat) (l E R : List Fct) : Prop where
  sized : Sized z E
  to : ∀ f ∈ l, SpanF (E ++ R) f.1 (byteAt f.2)
  back : ∀ f ∈ E ++ R, SpanF l f.1 (byteAt f.2)
  zeros : ∀ f ∈ R, f.1 = 0
  ech : Ech 40 E 0

theorem stairsAll_ok (z : Nat) (l : List Fct) (hs : Sized z l) (hl : Low 40 l) (n : Nat) (hn : n = 40) : ∃ E R, stairsAll l n = E ++ R ∧ Steps z l E R := by
  have hk := stair_ok z l hs hl n (by omega)
  refine ⟨(stairsTo l n).1, (stairsTo l n).2, rfl, ?_⟩
  obtain ⟨h1, h2, h3, h4, h5⟩ := hk
  have e : 40 - n = 0 := by omega
  rw [e] at h4 h5
  exact ⟨fun f hf => h1 f (List.mem_append_left _ hf), h2, h3, fun f hf => Nat.eq_of_testBit_eq (fun j => by rw [h4 f hf j (Nat.zero_le _)]; simp), h5⟩

theorem stairs_ok (z : Nat) (l : List Fct) (hs : Sized z l) (hl : Low 40 l) : ∃ E R, stairs l = E ++ R ∧ Steps z l E R := by
  unfold stairs
  exact stairsAll_ok z l hs hl 40 rfl

/-- WHAT IS TOLD: it is told just where the bits are a sum of the facts', and then it is the facts' sum. -/
theorem told_ok (l : List Fct) (x z : Nat) (hs : Sized z l) (hl : Low 40 l) :
    ((told l x z).2 = true ↔ sp (l.map Prod.fst) x) ∧ ((told l x z).2 = true → SpanF l x (byteAt (told l x z).1)) ∧ (told l x z).1.size = z := by
  obtain ⟨E, R, hst, hk⟩ := stairs_ok z l hs hl
  unfold told
  rw [hst]
  clear hst
  have hE : tell (E ++ R) (x, zeroB z) = tell E (x, zeroB z) := by
    have h1 := tell_zeros R (tell E (x, zeroB z)) hk.zeros
    unfold tell at h1 ⊢
    rw [List.foldl_append]
    exact h1
  rw [hE]
  obtain ⟨h1, h2, h3, _⟩ := tell_ok z E 40 0 (x, zeroB z) hk.ech hk.sized (zeroB_size z)
  have hback : ∀ {b : Nat} {v : Vec}, SpanF E b v → SpanF l b v := fun hb => SpanF_of (fun f hf => hk.back f (List.mem_append_left _ hf)) hb
  have hto : sp (l.map Prod.fst) x → sp (E.map Prod.fst) x := fun h => by
    obtain ⟨v, hv⟩ := (sp_iff l x).1 h
    have h5 := (sp_iff _ x).2 ⟨v, SpanF_of (fun f hf => hk.to f hf) hv⟩
    refine sp_of (fun f hf => ?_) h5
    rw [List.map_append] at hf
    rcases List.mem_append.1 hf with hf | hf
    · exact sp_mem hf
    · obtain ⟨g, hg, rfl⟩ := List.mem_map.1 hf
      rw [hk.zeros g hg]; exact sp_zero _
  have h1' : SpanF E (x ^^^ (tell E (x, zeroB z)).1) (byteAt (tell E (x, zeroB z)).2) := by
    have h := h1
    rw [show byteAt (x, zeroB z).2 = v0 from vec_zeroB z, vx_comm, vx_zero] at h
    exact h
  generalize tell E (x, zeroB z) = r at *
  refine ⟨⟨fun h => ?_, fun h => ?_⟩, fun h => ?_, h2⟩
  · have h0 : r.1 = 0 := by simpa using h
    rw [h0, Nat.xor_zero] at h1'
    exact (sp_iff l x).2 ⟨_, hback h1'⟩
  · have h6 := (sp_iff _ _).2 ⟨_, h1'⟩
    have h7 := sp_xor (hto h) h6
    rw [← Nat.xor_assoc, Nat.xor_self, Nat.zero_xor] at h7
    have h8 := ech_zero hk.ech h7 h3
    simp [h8]
  · have h0 : r.1 = 0 := by simpa using h
    rw [h0, Nat.xor_zero] at h1'
    exact hback h1'

end Go.Proofs.YtnjaofkieajnlaaGreat

/- Boxes as plain lists of facts: words as models, the rows' facts, how many places are missing. Nothing of the program. -/
namespace Go.Proofs.YtnjaofkieajnlaaGreat

/-- The sum of the pieces whose bits (below n) are set. -/
def evTo (x : Nat → Vec) (b : Nat) : Nat → Vec
  | 0 => v0
  | n + 1 => if b.testBit n then vx (evTo x b n) (x n) else evTo x b n

theorem evTo_xor (x : Nat → Vec) (a b n : Nat) : evTo x (a ^^^ b) n = vx (evTo x a n) (evTo x b n) := by
  induction n with
  | zero => exact (vx_zero _).symm
  | succ n ih =>
    simp only [evTo, Nat.testBit_xor, ih]
    cases a.testBit n <;> cases b.testBit n
    · simp
    · simp [vx_assoc]
    · simp only [Bool.xor_false, if_true, Bool.false_eq_true, if_false]; rw [vx_swap]
    · simp only [Bool.xor_self, Bool.false_eq_true, if_false, if_true]
      rw [vx_assoc, vx_comm (x n), ← vx_assoc, ← vx_assoc, vx_cancel]

theorem evTo_zero (x : Nat → Vec) (n : Nat) : evTo x 0 n = v0 := by
  induction n with
  | zero => rfl
  | succ n ih => simp [evTo, ih]

theorem evTo_unit (x : Nat → Vec) (i n : Nat) : evTo x (2 ^ i) n = if i < n then x i else v0 := by
  induction n with
  | zero => rfl
  | succ n ih =>
    simp only [evTo, ih, Nat.testBit_two_pow]
    by_cases e : i = n
    · subst e
      simp only [decide_true, if_true, Nat.lt_irrefl, if_false]
      rw [if_pos (by omega), vx_comm, vx_zero]
    · simp only [e, decide_false, Bool.false_eq_true, if_false]
      by_cases h : i < n
      · rw [if_pos h, if_pos (by omega)]
      · rw [if_neg h, if_neg (by omega)]

/-- Pieces that meet all facts. -/
def Meets (x : Nat → Vec) (n : Nat) (l : List Fct) : Prop := ∀ f ∈ l, evTo x f.1 n = byteAt f.2

theorem Meets.span {x : Nat → Vec} {n : Nat} {l : List Fct} (h : Meets x n l) {b : Nat} {v : Vec} (hb : SpanF l b v) : evTo x b n = v := by
  induction l generalizing b v with
  | nil => obtain ⟨h1, h2⟩ := hb
           subst h1 h2; exact evTo_zero x n
  | cons f l ih =>
    have hl : Meets x n l := fun g hg => h g (List.mem_cons_of_mem _ hg)
    rcases hb with hb | hb
    · exact ih hl hb
    · have h1 := ih hl hb
      rw [evTo_xor, h f (by simp)] at h1
      have h2 : vx (vx (evTo x b n) (byteAt f.2)) (byteAt f.2) = vx (vx v (byteAt f.2)) (byteAt f.2) := by rw [h1]
      rwa [vx_cancel, vx_cancel] at h2

theorem Meets.sound {x : Nat → Vec} {n : Nat} {l : List Fct} (h : Meets x n l) : Sound l := fun v hv => by
  have := h.span hv
  rw [evTo_zero] at this
  exact this.symm

/-- A row's bits. -/
def rowBits (row : List Nat) : Nat := row.foldl (fun b j => b ||| 2 ^ j) 0

theorem rowBits_from (row : List Nat) (b : Nat) : row.foldl (fun b j => b ||| 2 ^ j) b = b ||| rowBits row := by
  induction row generalizing b with
  | nil => simp [rowBits]
  | cons j row ih =>
    show row.foldl _ (b ||| 2 ^ j) = b ||| (row.foldl _ (0 ||| 2 ^ j))
    rw [ih, ih (0 ||| 2 ^ j), Nat.zero_or, Nat.or_assoc]

theorem rowBits_cons (j : Nat) (row : List Nat) : rowBits (j :: row) = 2 ^ j ||| rowBits row := by
  show row.foldl _ (0 ||| 2 ^ j) = _
  rw [rowBits_from, Nat.zero_or]

theorem testBit_rowBits (row : List Nat) (i : Nat) : (rowBits row).testBit i = decide (i ∈ row) := by
  induction row with
  | nil => simp [rowBits]
  | cons j row ih =>
    rw [rowBits_cons, Nat.testBit_or, ih, Nat.testBit_two_pow]
    by_cases e : j = i
    · subst e; simp
    · have e' : ¬ i = j := fun h => e h.symm
      simp [e, e']

theorem rowBits_xor (j : Nat) (row : List Nat) (h : j ∉ row) : rowBits (j :: row) = 2 ^ j ^^^ rowBits row := by
  apply Nat.eq_of_testBit_eq
  intro i
  rw [rowBits_cons, Nat.testBit_or, Nat.testBit_xor, Nat.testBit_two_pow, testBit_rowBits]
  by_cases e : j = i
  · subst e; simp [h]
  · simp [e]

/-- The rows' sums, by their bits. -/
theorem evTo_row (P : List ByteArray) (z n : Nat) (hp : ∀ x ∈ P, x.size = z) (hn : P.length ≤ n) : ∀ (row : List Nat) (t : ByteArray), row.Nodup → (∀ j ∈ row, j < P.length) → t.size = z →
    byteAt (row.foldl (addAt P) t) = vx (byteAt t) (evTo (fun j => byteAt (P.getD j ByteArray.empty)) (rowBits row) n)
  | [], t, _, _, _ => by
    show byteAt t = vx (byteAt t) (evTo _ 0 n)
    rw [evTo_zero, vx_zero]
  | j :: row, t, hd, hj, ht => by
    rw [List.nodup_cons] at hd
    have hjl := hj j (by simp)
    have hps : (P.getD j ByteArray.empty).size = z := hp _ (by rw [List.getD_eq_getElem?_getD, List.getElem?_eq_getElem hjl]; exact List.getElem_mem hjl)
    simp only [List.foldl_cons]
    have ha : addAt P t j = xorB t (P.getD j ByteArray.empty) := by unfold addAt; rw [if_pos hjl]
    rw [evTo_row P z n hp hn row _ hd.2 (fun k hk => hj k (List.mem_cons_of_mem _ hk)) (addAt_size hp ht), rowBits_xor j row hd.1, evTo_xor, evTo_unit, if_pos (by omega), ha, vec_xorB (by omega), vx_assoc]

/-- The facts of a box: the rows, and what was put in. -/
def rowFacts (K M O S z : Nat) : List Fct := (List.range M).map fun i => (rowBits (rowOf K M O S i), zeroB z)

/-- What was put in, as facts. -/
def putFacts (puts : List (Nat × ByteArray)) : List Fct := puts.map fun p => (2 ^ p.1, p.2)

def boxFacts (K M O S z : Nat) (puts : List (Nat × ByteArray)) : List Fct := rowFacts K M O S z ++ putFacts puts

/-- A word meets the facts of a box that has pieces of it. -/
theorem word_meets (K M O S z : Nat) (P : List ByteArray) (puts : List (Nat × ByteArray)) (hl : P.length = K + M) (hp : ∀ x ∈ P, x.size = z) (hfit : ∀ i, i < M → sumB P (rowOf K M O S i) z = zeroB z)
    (hputs : ∀ p ∈ puts, p.1 < K + M ∧ p.2 = P.getD p.1 ByteArray.empty) : Meets (fun j => byteAt (P.getD j ByteArray.empty)) (K + M) (boxFacts K M O S z puts) := by
  intro f hf
  rcases List.mem_append.1 hf with hf | hf
  · obtain ⟨i, hi, rfl⟩ := List.mem_map.1 hf
    have hiM := List.mem_range.1 hi
    have h := evTo_row P z (K + M) hp (by omega) (rowOf K M O S i) (zeroB z) (rowOf_nodup K M O S i) (fun j hj => by have := rowOf_lt K M O S i j hj; omega) (zeroB_size z)
    have h2 : (rowOf K M O S i).foldl (addAt P) (zeroB z) = zeroB z := hfit i hiM
    rw [h2, vec_zeroB, vx_comm, vx_zero] at h
    show evTo _ (rowBits (rowOf K M O S i)) (K + M) = byteAt (zeroB z)
    rw [vec_zeroB]
    exact h.symm
  · obtain ⟨p, hpm, rfl⟩ := List.mem_map.1 hf
    obtain ⟨h1, h2⟩ := hputs p hpm
    show evTo _ (2 ^ p.1) (K + M) = byteAt p.2
    rw [evTo_unit, if_pos h1, h2]

/-- Rows alone say noughts of every sum. -/
theorem rowFacts_sound (K M O S z : Nat) : ∀ {b : Nat} {v : Vec}, SpanF (rowFacts K M O S z) b v → v = v0 := by
  intro b v h
  have hm : Meets (fun _ => v0) 0 (rowFacts K M O S z) := fun f hf => by
    obtain ⟨i, _, rfl⟩ := List.mem_map.1 hf
    show v0 = byteAt (zeroB z)
    rw [vec_zeroB]
  exact (hm.span h).symm

/-- The rows' facts are of the box's size. -/
theorem boxFacts_sized (K M O S z : Nat) (puts : List (Nat × ByteArray)) (h : ∀ p ∈ puts, p.2.size = z) : Sized z (boxFacts K M O S z puts) := by
  intro f hf
  rcases List.mem_append.1 hf with hf | hf
  · obtain ⟨i, _, rfl⟩ := List.mem_map.1 hf
    exact zeroB_size z
  · obtain ⟨p, hp, rfl⟩ := List.mem_map.1 hf
    exact h p hp

theorem boxFacts_low (K M O S z n : Nat) (puts : List (Nat × ByteArray)) (hn : K + M ≤ n) (h : ∀ p ∈ puts, p.1 < K + M) : Low n (boxFacts K M O S z puts) := by
  intro f hf j hj
  rcases List.mem_append.1 hf with hf | hf
  · obtain ⟨i, hi, rfl⟩ := List.mem_map.1 hf
    have hiM := List.mem_range.1 hi
    show (rowBits (rowOf K M O S i)).testBit j = false
    rw [testBit_rowBits, decide_eq_false_iff_not]
    intro hm
    have := rowOf_lt K M O S i j hm
    omega
  · obtain ⟨p, hp, rfl⟩ := List.mem_map.1 hf
    have := h p hp
    show (2 ^ p.1).testBit j = false
    rw [Nat.testBit_two_pow, decide_eq_false_iff_not]
    omega

/-- The rows' bits are independent: row i is the last that has piece K + i. -/
theorem rows_indep (K M O S z : Nat) : Indep ((rowFacts K M O S z).reverse.map Prod.fst) := by
  have h : ∀ n, Indep ((((List.range n).map fun i => (rowBits (rowOf K M O S i), zeroB z)).reverse).map Prod.fst) ∧ (∀ f ∈ ((((List.range n).map fun i => (rowBits (rowOf K M O S i), zeroB z)).reverse).map Prod.fst), ∀ j, K + n ≤ j → f.testBit j = false) := by
    intro n
    induction n with
    | zero => exact ⟨True.intro, fun f hf => by simp at hf⟩
    | succ n ih =>
      rw [List.range_succ, List.map_append, List.reverse_append, List.map_append]
      refine ⟨⟨fun hs => ?_, ih.1⟩, fun f hf j hj => ?_⟩
      · have h1 := sp_low _ (K + n) ih.2 hs (K + n) (Nat.le_refl _)
        have h2 : (rowBits (rowOf K M O S n)).testBit (K + n) = true := by
          rw [testBit_rowBits, decide_eq_true_eq, rowOf_head]; simp
        have h3 : (rowBits (rowOf K M O S n)).testBit (K + n) = false := h1
        rw [h2] at h3
        cases h3
      · rcases List.mem_append.1 hf with hf | hf
        · simp at hf
          subst hf
          rw [testBit_rowBits, decide_eq_false_iff_not]
          intro hm
          have := rowOf_lt K M O S n j hm
          omega
        · exact ih.2 f hf j (by omega)
  exact (h M).1

/-- The units below n. -/
def unitsTo : Nat → List Nat
  | 0 => []
  | n + 1 => 2 ^ n :: unitsTo n

theorem unitsTo_length (n : Nat) : (unitsTo n).length = n := by
  induction n with
  | zero => rfl
  | succ n ih => simp [unitsTo, ih]

theorem unitsTo_low (n : Nat) : ∀ f ∈ unitsTo n, ∀ j, n ≤ j → f.testBit j = false := by
  induction n with
  | zero => intro f hf; simp [unitsTo] at hf
  | succ n ih =>
    intro f hf j hj
    rcases List.mem_cons.1 hf with e | hf
    · subst e; rw [Nat.testBit_two_pow, decide_eq_false_iff_not]; omega
    · exact ih f hf j (by omega)

theorem unitsTo_indep (n : Nat) : Indep (unitsTo n) := by
  induction n with
  | zero => exact True.intro
  | succ n ih =>
    refine ⟨fun hs => ?_, ih⟩
    have := sp_low _ n (unitsTo_low n) hs n (Nat.le_refl _)
    rw [Nat.testBit_two_pow] at this
    simp at this

theorem unitsTo_mem (n i : Nat) : 2 ^ i ∈ unitsTo n ↔ i < n := by
  induction n with
  | zero => simp [unitsTo]
  | succ n ih =>
    simp only [unitsTo, List.mem_cons, ih]
    constructor
    · rintro (h | h)
      · have := congrArg Nat.log2 h
        rw [Nat.log2_two_pow, Nat.log2_two_pow] at this
        omega
      · omega
    · intro h
      by_cases e : i = n
      · subst e; exact Or.inl rfl
      · exact Or.inr (by omega)

/-- Whatever has no bit from n on is a sum of units. -/
theorem units_span (n : Nat) : ∀ x, (∀ j, n ≤ j → x.testBit j = false) → sp (unitsTo n) x := by
  induction n with
  | zero => intro x hx; exact Nat.eq_of_testBit_eq (fun j => by rw [hx j (Nat.zero_le _)]; simp)
  | succ n ih =>
    intro x hx
    cases hb : x.testBit n
    · exact Or.inl (ih x (fun j hj => by
        by_cases e : j = n
        · rw [e]; exact hb
        · exact hx j (by omega)))
    · refine Or.inr (ih _ (fun j hj => ?_))
      rw [Nat.testBit_xor, Nat.testBit_two_pow]
      by_cases e : j = n
      · subst e; rw [hb]; simp
      · rw [hx j (by omega)]; simp; omega

/-- The document's own count: places at which nothing follows are put in, one by one. -/
def needTo (F : List Fct) (z : Nat) : Nat → List Fct × Nat
  | 0 => (F, 0)
  | i + 1 => if (told (needTo F z i).1 (2 ^ i) z).2 then needTo F z i else ((needTo F z i).1 ++ [(2 ^ i, zeroB z)], (needTo F z i).2 + 1)

structure NeedOk (F : List Fct) (z n i : Nat) (B : List Nat) : Prop where
  sized : Sized z (needTo F z i).1
  low : Low n (needTo F z i).1
  basis : ∃ C, Indep C ∧ C.length = B.length + (needTo F z i).2 ∧ (∀ f ∈ C, sp ((needTo F z i).1.map Prod.fst) f) ∧ (∀ f ∈ (needTo F z i).1.map Prod.fst, sp C f)
  all : ∀ k, k < i → sp ((needTo F z i).1.map Prod.fst) (2 ^ k)

theorem need_ok (F : List Fct) (z n : Nat) (B : List Nat) (hn : n ≤ 40) (hs : Sized z F) (hl : Low n F) (hB : Indep B) (h1 : ∀ f ∈ B, sp (F.map Prod.fst) f) (h2 : ∀ f ∈ F.map Prod.fst, sp B f) (i : Nat) (hi : i ≤ n) : NeedOk F z n i B := by
  induction i with
  | zero => exact ⟨hs, hl, ⟨B, hB, rfl, h1, h2⟩, fun k hk => by omega⟩
  | succ i ih =>
    have h := ih (by omega)
    have hlow40 : Low 40 (needTo F z i).1 := fun f hf j hj => h.low f hf j (by omega)
    obtain ⟨ht, _, _⟩ := told_ok (needTo F z i).1 (2 ^ i) z h.sized hlow40
    cases hc : (told (needTo F z i).1 (2 ^ i) z).2
    · have he : needTo F z (i + 1) = ((needTo F z i).1 ++ [(2 ^ i, zeroB z)], (needTo F z i).2 + 1) := by simp only [needTo]; rw [hc]; rfl
      have hno : ¬ sp ((needTo F z i).1.map Prod.fst) (2 ^ i) := fun hs => by have := ht.2 hs; rw [hc] at this; cases this
      obtain ⟨C, hC, hlen, hC1, hC2⟩ := h.basis
      have hmap : ((needTo F z i).1 ++ [(2 ^ i, zeroB z)]).map Prod.fst = (needTo F z i).1.map Prod.fst ++ [2 ^ i] := by simp
      refine ⟨?_, ?_, ⟨2 ^ i :: C, ⟨fun hs => hno (sp_of hC1 hs), hC⟩, ?_, ?_, ?_⟩, ?_⟩
      · rw [he]
        intro f hf
        rcases List.mem_append.1 hf with hf | hf
        · exact h.sized f hf
        · simp at hf; subst hf; exact zeroB_size z
      · rw [he]
        intro f hf j hj
        rcases List.mem_append.1 hf with hf | hf
        · exact h.low f hf j hj
        · simp at hf; subst hf
          show (2 ^ i).testBit j = false
          rw [Nat.testBit_two_pow, decide_eq_false_iff_not]; omega
      · rw [he]; simp [hlen]; omega
      · rw [he]
        intro f hf
        show sp (((needTo F z i).1 ++ [(2 ^ i, zeroB z)]).map Prod.fst) f
        rw [hmap]
        rcases List.mem_cons.1 hf with e | hf
        · subst e; exact sp_mem (by simp)
        · exact sp_sub (fun x hx => List.mem_append_left _ hx) (hC1 f hf)
      · rw [he]
        intro f hf
        have hf' : f ∈ ((needTo F z i).1 ++ [(2 ^ i, zeroB z)]).map Prod.fst := hf
        rw [hmap] at hf'
        rcases List.mem_append.1 hf' with hf' | hf'
        · exact Or.inl (hC2 f hf')
        · simp at hf'; subst hf'; exact sp_mem (by simp)
      · intro k hk
        rw [he]
        show sp (((needTo F z i).1 ++ [(2 ^ i, zeroB z)]).map Prod.fst) (2 ^ k)
        rw [hmap]
        by_cases e : k = i
        · subst e; exact sp_mem (by simp)
        · exact sp_sub (fun x hx => List.mem_append_left _ hx) (h.all k (by omega))
    · have he : needTo F z (i + 1) = needTo F z i := by simp only [needTo]; rw [hc]; rfl
      refine ⟨by rw [he]; exact h.sized, by rw [he]; exact h.low, by rw [he]; exact h.basis, fun k hk => ?_⟩
      rw [he]
      by_cases e : k = i
      · subst e; exact ht.1 hc
      · exact h.all k (by omega)

/-- HOW MANY ARE MISSING: as many as there are places, less the independent facts. -/
theorem need_count (F : List Fct) (z n : Nat) (B : List Nat) (hn : n ≤ 40) (hs : Sized z F) (hl : Low n F) (hB : Indep B) (h1 : ∀ f ∈ B, sp (F.map Prod.fst) f) (h2 : ∀ f ∈ F.map Prod.fst, sp B f) : (needTo F z n).2 + B.length = n := by
  have h := need_ok F z n B hn hs hl hB h1 h2 n (Nat.le_refl _)
  obtain ⟨C, hC, hlen, hC1, hC2⟩ := h.basis
  have h3 : C.length = (unitsTo n).length := by
    refine indep_eq hC (unitsTo_indep n) (fun f hf => ?_) (fun f hf => ?_)
    · exact units_span n f (sp_low _ n (fun g hg j hj => by
        obtain ⟨x, hx, rfl⟩ := List.mem_map.1 hg
        exact h.low x hx j hj) (hC1 f hf))
    · have hall : ∀ m, m ≤ n → ∀ f ∈ unitsTo m, sp C f := by
        intro m
        induction m with
        | zero => intro _ f hf; simp [unitsTo] at hf
        | succ m ih =>
          intro hm f hf
          rcases List.mem_cons.1 hf with e | hf
          · subst e; exact sp_of hC2 (h.all m (by omega))
          · exact ih (by omega) f hf
      exact hall n (Nat.le_refl _) f hf
  rw [unitsTo_length] at h3
  omega

end Go.Proofs.YtnjaofkieajnlaaGreat
