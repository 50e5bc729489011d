/- Which sums of pieces follow from facts: sums of facts over bits, independence, and that no more independent ones than facts can be; nothing of the program. -/
namespace Go.Proofs.YtnjaofkieajnlaaGreat

/-- Bits that are sums of some of a list. -/
def sp : List Nat → Nat → Prop
  | [], b => b = 0
  | f :: l, b => sp l b ∨ sp l (b ^^^ f)

theorem xor_swap (a b c : Nat) : a ^^^ b ^^^ c = a ^^^ c ^^^ b := by rw [Nat.xor_assoc, Nat.xor_comm b c, ← Nat.xor_assoc]
theorem xor_cancel (a b : Nat) : a ^^^ b ^^^ b = a := by rw [Nat.xor_assoc, Nat.xor_self, Nat.xor_zero]

theorem sp_zero (l : List Nat) : sp l 0 := by
  induction l with
  | nil => rfl
  | cons f l ih => exact Or.inl ih

theorem sp_xor {l : List Nat} {a b : Nat} (ha : sp l a) (hb : sp l b) : sp l (a ^^^ b) := by
  induction l generalizing a b with
  | nil =>
    have h1 : a = 0 := ha
    have h2 : b = 0 := hb
    subst h1 h2; rfl
  | cons f l ih =>
    rcases ha with ha | ha <;> rcases hb with hb | hb
    · exact Or.inl (ih ha hb)
    · refine Or.inr ?_
      have := ih ha hb
      rwa [← Nat.xor_assoc] at this
    · refine Or.inr ?_
      have := ih ha hb
      rwa [xor_swap] at this
    · refine Or.inl ?_
      have := ih ha hb
      rwa [Nat.xor_assoc, ← Nat.xor_assoc f b f, Nat.xor_comm f b, xor_cancel] at this

theorem sp_mem {l : List Nat} {f : Nat} (h : f ∈ l) : sp l f := by
  induction l with
  | nil => simp at h
  | cons g l ih =>
    rcases List.mem_cons.1 h with h | h
    · subst h; refine Or.inr ?_; rw [Nat.xor_self]; exact sp_zero l
    · exact Or.inl (ih h)

theorem sp_of {l l' : List Nat} (h : ∀ f ∈ l, sp l' f) {b : Nat} (hb : sp l b) : sp l' b := by
  induction l generalizing b with
  | nil => have : b = 0 := hb
           subst this; exact sp_zero l'
  | cons f l ih =>
    have hl : ∀ g ∈ l, sp l' g := fun g hg => h g (List.mem_cons_of_mem _ hg)
    rcases hb with hb | hb
    · exact ih hl hb
    · have h1 := sp_xor (ih hl hb) (h f (by simp))
      rwa [xor_cancel] at h1

theorem sp_cons {l : List Nat} {f b : Nat} (h : sp l b) : sp (f :: l) b := Or.inl h

theorem sp_sub {l l' : List Nat} (h : ∀ f ∈ l, f ∈ l') {b : Nat} (hb : sp l b) : sp l' b := sp_of (fun f hf => sp_mem (h f hf)) hb

/-- None of a list is a sum of those behind it. -/
def Indep : List Nat → Prop
  | [] => True
  | f :: l => ¬ sp l f ∧ Indep l

/-- One of a list taken out: what is left spans, with it, the same. -/
theorem sp_add_left {l : List Nat} {f : Nat} {b : Nat} (h : sp (f :: l) b) (hn : ¬ sp l b) : sp l (b ^^^ f) := h.resolve_left hn

/-- Each that needs f is added to f. -/
def clear1 (P : Nat → Bool) (f : Nat) (l : List Nat) : List Nat := l.map fun g => if P g then g ^^^ f else g

theorem sp_clear1 (P : Nat → Bool) (f : Nat) (l : List Nat) {b : Nat} (hb : sp (clear1 P f l) b) : sp l b ∨ sp l (b ^^^ f) := by
  induction l generalizing b with
  | nil => exact Or.inl hb
  | cons g l ih =>
    have hb' : sp (clear1 P f l) b ∨ sp (clear1 P f l) (b ^^^ (if P g then g ^^^ f else g)) := hb
    rcases hb' with hb' | hb'
    · rcases ih hb' with h | h
      · exact Or.inl (Or.inl h)
      · exact Or.inr (Or.inl h)
    · cases hP : P g
      · rw [hP] at hb'
        simp only [Bool.false_eq_true, if_false] at hb'
        rcases ih hb' with h | h
        · exact Or.inl (Or.inr h)
        · refine Or.inr (Or.inr ?_)
          rwa [xor_swap] at h
      · rw [hP] at hb'
        simp only [if_true] at hb'
        rcases ih hb' with h | h
        · refine Or.inr (Or.inr ?_)
          rwa [← Nat.xor_assoc, xor_swap] at h
        · refine Or.inl (Or.inr ?_)
          rwa [← Nat.xor_assoc, xor_cancel] at h

theorem indep_clear1 (P : Nat → Bool) (f : Nat) (l : List Nat) (h : Indep (f :: l)) : Indep (clear1 P f l) := by
  induction l with
  | nil => exact True.intro
  | cons g l ih =>
    obtain ⟨hf, hg, hl⟩ := h
    have hfl : ¬ sp l f := fun hs => hf (Or.inl hs)
    refine ⟨fun hs0 => ?_, ih ⟨hfl, hl⟩⟩
    have hs : sp (clear1 P f l) (if P g then g ^^^ f else g) := hs0
    cases hP : P g
    · rw [hP] at hs
      simp only [Bool.false_eq_true, if_false] at hs
      rcases sp_clear1 P f l hs with h | h
      · exact hg h
      · exact hf (Or.inr (by rw [Nat.xor_comm]; exact h))
    · rw [hP] at hs
      simp only [if_true] at hs
      rcases sp_clear1 P f l hs with h | h
      · exact hf (Or.inr (by rw [Nat.xor_comm]; exact h))
      · rw [xor_cancel] at h; exact hg h

/-- One that is not the head brought to the head. -/
theorem indep_swap {f g : Nat} {l : List Nat} (h : Indep (f :: g :: l)) : Indep (g :: f :: l) := by
  obtain ⟨hf, hg, hl⟩ := h
  refine ⟨fun hs => ?_, fun hs => hf (Or.inl hs), hl⟩
  rcases hs with hs | hs
  · exact hg hs
  · exact hf (Or.inr (by rw [Nat.xor_comm]; exact hs))

theorem indep_front {l : List Nat} {f : Nat} (hf : f ∈ l) (h : Indep l) : ∃ r, Indep (f :: r) ∧ r.length + 1 = l.length ∧ (∀ x ∈ r, x ∈ l) := by
  induction l with
  | nil => simp at hf
  | cons g l ih =>
    rcases List.mem_cons.1 hf with e | hm
    · subst e; exact ⟨l, h, rfl, fun x hx => List.mem_cons_of_mem _ hx⟩
    · obtain ⟨r, hr, hlen, hsub⟩ := ih hm h.2
      refine ⟨g :: r, ?_, by simp; omega, fun x hx => ?_⟩
      · refine indep_swap ⟨fun hs => h.1 ?_, hr⟩
        exact sp_sub (fun x hx => by
          rcases List.mem_cons.1 hx with e | hx
          · subst e; exact hm
          · exact hsub x hx) hs
      · rcases List.mem_cons.1 hx with e | hx
        · subst e; simp
        · exact List.mem_cons_of_mem _ (hsub x hx)

/-- No more independent ones than they are sums of. -/
theorem indep_le : ∀ (l2 l1 : List Nat), Indep l1 → (∀ f ∈ l1, sp l2 f) → l1.length ≤ l2.length
  | [], l1, hi, hs => by
    cases l1 with
    | nil => exact Nat.le_refl _
    | cons f l =>
      have : f = 0 := hs f (by simp)
      subst this
      exact absurd (sp_zero l) hi.1
  | g :: l2, l1, hi, hs => by
    refine Classical.byCases (fun hall : ∀ f ∈ l1, sp l2 f => ?_) (fun hno => ?_)
    · have := indep_le l2 l1 hi hall
      simp; omega
    · obtain ⟨f, hf⟩ : ∃ f, f ∈ l1 ∧ ¬ sp l2 f := Classical.byContradiction fun h => hno fun f hf => Classical.byContradiction fun hn => h ⟨f, hf, hn⟩
      obtain ⟨r, hr, hlen, hsub⟩ := indep_front hf.1 hi
      have hfg : sp l2 (f ^^^ g) := sp_add_left (hs f hf.1) hf.2
      have hP : ∃ P : Nat → Bool, ∀ x, P x = true ↔ ¬ sp l2 x := by
        refine ⟨fun x => @decide (¬ sp l2 x) (Classical.propDecidable _), fun x => ?_⟩
        simp
      obtain ⟨P, hP⟩ := hP
      have h1 := indep_clear1 P f r hr
      have h2 : ∀ x ∈ clear1 P f r, sp l2 x := by
        intro x hx
        obtain ⟨y, hy, rfl⟩ := List.mem_map.1 hx
        cases hPy : P y
        · simp only [Bool.false_eq_true, if_false]
          exact Classical.byContradiction fun hn => by have := (hP y).2 hn; rw [hPy] at this; cases this
        · simp only [if_true]
          have hy2 := sp_add_left (hs y (hsub y hy)) ((hP y).1 hPy)
          have := sp_xor hy2 hfg
          rwa [Nat.xor_assoc, ← Nat.xor_assoc g f g, Nat.xor_comm g f, xor_cancel] at this
      have := indep_le l2 (clear1 P f r) h1 h2
      have hl : (clear1 P f r).length = r.length := by simp [clear1]
      simp
      omega

/-- Two independent lists that are sums of each other are as long. -/
theorem indep_eq {l1 l2 : List Nat} (h1 : Indep l1) (h2 : Indep l2) (h12 : ∀ f ∈ l1, sp l2 f) (h21 : ∀ f ∈ l2, sp l1 f) : l1.length = l2.length :=
  Nat.le_antisymm (indep_le l2 l1 h1 h12) (indep_le l1 l2 h2 h21)

end Go.Proofs.YtnjaofkieajnlaaGreat
