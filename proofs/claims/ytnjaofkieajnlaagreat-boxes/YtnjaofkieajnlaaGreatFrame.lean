/- What a call may have changed ('Chg'), and rows of numbers that lie in memory ('RowsAt'): how both go on behind each step. -/
import Derived.Test.YtnjaofkieajnlaaGreatProg
import Derived.WalkKit
import Derived.Deep.OwnRows
import Derived.Deep.AppendLies
import Derived.Deep.QuietTactic
namespace Go.Proofs.YtnjaofkieajnlaaGreat
open Go.RowKit

theorem hide {p : Prop} (h : p) : Hid p := h

/-- Of the blocks that were there only those of S may have turned. -/
structure Chg (S : Nat → Prop) (w w' : World) : Prop where
  os : w'.os = w.os
  tape : w'.tape = w.tape
  output : w'.output = w.output
  size : w.heap.size ≤ w'.heap.size
  block : ∀ k, k < w.heap.size → ¬ S k → w'.heap[k]? = w.heap[k]?

namespace Chg
variable {S T : Nat → Prop} {w w1 w2 : World}

theorem refl (S : Nat → Prop) (w : World) : Chg S w w := ⟨rfl, rfl, rfl, Nat.le_refl _, fun _ _ _ => rfl⟩

theorem trans (h : Chg S w w1) (k : Chg T w1 w2) (hs : ∀ k, k < w.heap.size → T k → S k) : Chg S w w2 :=
  ⟨k.os.trans h.os, k.tape.trans h.tape, k.output.trans h.output, Nat.le_trans h.size k.size,
    fun i hi hn => (k.block i (Nat.lt_of_lt_of_le hi h.size) (fun t => hn (hs i hi t))).trans (h.block i hi hn)⟩

theorem mono (h : Chg S w w1) (hs : ∀ k, k < w.heap.size → S k → T k) : Chg T w w1 :=
  ⟨h.os, h.tape, h.output, h.size, fun k hk hn => h.block k hk (fun s => hn (hs k hk s))⟩

theorem drew (h : Chg S w w1) : Chg S w w1.drew := ⟨h.os, h.tape, h.output, h.size, h.block⟩

theorem drewN (h : Chg S w w1) (n : Nat) : Chg S w (w1.drewN n) := ⟨h.os, h.tape, h.output, h.size, h.block⟩

theorem alloc (h : Chg S w w1) (o : Obj) : Chg S w (w1.alloc o) :=
  ⟨h.os, h.tape, h.output, by have := h.size; simp; omega, fun k hk hn => (Below.heap_alloc _ _ _ (Nat.lt_of_lt_of_le hk h.size)).trans (h.block k hk hn)⟩

theorem setCell (h : Chg S w w1) {a : Addr} (ha : w.heap.size ≤ a.block ∨ S a.block) (v : Value) : Chg S w (w1.setCell a v) :=
  ⟨h.os, h.tape, h.output, by have := h.size; simp [World.setCell]; omega,
    fun k hk hn => (Below.heap_setCell _ _ _ _ (by rintro rfl; rcases ha with ha | ha; omega; exact hn ha)).trans (h.block k hk hn)⟩

theorem grown {row : Option Nat} (h : Chg S w w1) (hg : w1.grownBy w2 row) (hr : ∀ k, row = some k → w.heap.size ≤ k ∨ S k) : Chg S w w2 :=
  ⟨hg.os.trans h.os, hg.tape.trans h.tape, hg.output.trans h.output, Nat.le_trans h.size hg.size,
    fun k hk hn => (hg.block k (Nat.lt_of_lt_of_le hk h.size) (fun e => by rcases hr k e.symm with hh | hh; omega; exact hn hh)).trans (h.block k hk hn)⟩

theorem of_below (h : Below w.heap.size w w1) (S : Nat → Prop) : Chg S w w1 := ⟨h.os, h.tape, h.output, h.size, fun k hk _ => h.block k hk⟩

theorem below (h : Chg S w w1) (hs : ∀ k, k < w.heap.size → ¬ S k) : Below w.heap.size w w1 := ⟨h.os, h.tape, h.output, h.size, fun k hk => h.block k hk (hs k hk)⟩

theorem setRow (h : Chg S w w1) {g : Nat} (hg : w.heap.size ≤ g ∨ S g) (cs : Array Value) : Chg S w (w1.setRow g cs) :=
  ⟨h.os, h.tape, h.output, by have := h.size; simp; omega,
    fun k hk hn => (setRow_other _ _ _ _ (by rintro rfl; rcases hg with ha | ha; omega; exact hn ha)).trans (h.block k hk hn)⟩

theorem cell (h : Chg S w w1) {a : Addr} (ha : a.block < w.heap.size) (hn : ¬ S a.block) : w1.cell? a = w.cell? a := World.cell?_of_block (w := w) (h.block _ ha hn)
theorem frozen (h : Chg S w w1) {a : Addr} (ha : a.block < w.heap.size) (hn : ¬ S a.block) : w1.frozen? a = w.frozen? a := World.frozen?_of_block (w := w) (h.block _ ha hn)

end Chg

/-- A slice of strings or numbers that is owned reads on where its block has not turned. -/
theorem owns_of_block {w w' : World} {base : Nat} {e : TypeId} {size : Nat} {v : Value} {n : Nat} {xs : List Value} (h : w.ownsRow base e size v n xs) (hk : ∀ k, v.ownBlock = some k → w'.heap[k]? = w.heap[k]?) : w'.ownsRow base e size v n xs := by
  refine ⟨h.1, ?_⟩
  rcases h.2 with hn | ⟨g, cap, cur, rfl, hb, hgg, rest⟩
  · exact .inl hn
  · exact .inr ⟨g, cap, cur, rfl, hb, by rw [hk g rfl]; exact hgg, rest⟩

theorem owns_base {w : World} {base base' : Nat} {e : TypeId} {size : Nat} {v : Value} {n : Nat} {xs : List Value} (h : w.ownsRow base e size v n xs) (hb' : ∀ k, v.ownBlock = some k → base' ≤ k) : w.ownsRow base' e size v n xs := by
  refine ⟨h.1, ?_⟩
  rcases h.2 with hn | ⟨g, cap, cur, rfl, hb, hgg, rest⟩
  · exact .inl hn
  · exact .inr ⟨g, cap, cur, rfl, hb' g rfl, hgg, rest⟩

theorem owns_block {w : World} {base : Nat} {e : TypeId} {size : Nat} {v : Value} {n : Nat} {xs : List Value} (h : w.ownsRow base e size v n xs) {k : Nat} (hk : v.ownBlock = some k) : ∃ cur, w.heap[k]? = some (.cells cur e (0, 0)) := by
  rcases h.2 with ⟨rfl, _⟩ | ⟨g, cap, cur, rfl, _, hgg, _⟩
  · simp [Value.ownBlock] at hk
  · have : g = k := by simpa [Value.ownBlock] using hk
    subst this
    exact ⟨cur, hgg⟩

/-- An owned row lies in no block of another type. -/
theorem owns_ne {w : World} {base : Nat} {e t : TypeId} {size : Nat} {v : Value} {n m c : Nat} {xs : List Value} {f : Nat → Value} (h : w.ownsRow base e size v n xs) (hr : w.rowIs c t m f) (hne : e ≠ t) : ∀ k, v.ownBlock = some k → k ≠ c := by
  rintro k hk rfl
  obtain ⟨cur, hcur⟩ := owns_block h hk
  obtain ⟨c', hc', _⟩ := hr
  rw [hcur] at hc'
  simp at hc'
  exact hne hc'.2

/-- Numbers as values. -/
def numsV (l : List Nat) : List Value := l.map (fun n : Nat => Value.int .i64 (n : Int))

theorem numsV_append (a b : List Nat) : numsV (a ++ b) = numsV a ++ numsV b := by simp [numsV]
theorem numsV_length (l : List Nat) : (numsV l).length = l.length := by simp [numsV]

/-- Block g holds M slices; slice i is 'rv i' and owns the numbers 'L i'; their blocks lie from base on, each by itself; g lies below base. -/
structure RowsAt (w : World) (base g M : Nat) (rv : Nat → Value) (L : Nat → List Nat) : Prop where
  row : w.rowIs g 63 M rv
  gb : g < base
  own : ∀ i, i < M → w.ownsRow base 3 1 (rv i) (L i).length (numsV (L i))
  apart : ∀ i j, i < M → j < M → i ≠ j → ∀ k, (rv i).ownBlock = some k → (rv j).ownBlock ≠ some k

namespace RowsAt
variable {w w' : World} {base g M : Nat} {rv : Nat → Value} {L : Nat → List Nat}

/-- The blocks that the rows lie in have not turned. -/
theorem kept (h : RowsAt w base g M rv L) (hg : w'.heap[g]? = w.heap[g]?) (hk : ∀ k, base ≤ k → k < w.heap.size → w'.heap[k]? = w.heap[k]?) : RowsAt w' base g M rv L :=
  ⟨h.row.of_block hg, h.gb, fun i hi => owns_of_block (h.own i hi) (fun k e => by have := (h.own i hi).lt k e; exact hk k this.1 this.2), h.apart⟩

theorem chg {S : Nat → Prop} (h : RowsAt w base g M rv L) (c : Chg S w w') (hg : ¬ S g) (hk : ∀ k, base ≤ k → k < w.heap.size → ¬ S k) : RowsAt w' base g M rv L :=
  h.kept (c.block g h.row.lt hg) (fun k a b => c.block k b (hk k a b))

theorem alloc (h : RowsAt w base g M rv L) (o : Obj) : RowsAt (w.alloc o) base g M rv L :=
  h.chg ((Chg.refl (fun _ => False) w).alloc o) (fun x => x) (fun _ _ _ x => x)

theorem drew (h : RowsAt w base g M rv L) : RowsAt w.drew base g M rv L :=
  h.chg ((Chg.refl (fun _ => False) w).drew) (fun x => x) (fun _ _ _ x => x)

theorem below (h : RowsAt w base g M rv L) (c : Below w.heap.size w w') : RowsAt w' base g M rv L :=
  h.chg (Chg.of_below c (fun _ => False)) (fun x => x) (fun _ _ _ x => x)

/-- Behind 'make'. -/
theorem made (w : World) (base M : Nat) (hb : w.heap.size < base) : RowsAt (w.alloc (.cells (madeCells #[.slice none 0 0] M) 63)) base w.heap.size M (fun _ => .slice none 0 0) (fun _ => []) :=
  ⟨World.rowIs_made w (.slice none 0 0) M 63, hb, fun i _ => World.ownsRow_nil _ _ _ _, fun i j _ _ _ k h => by simp [Value.ownBlock] at h⟩

/-- A number appended to row i, the row stored back. -/
theorem push (h : RowsAt w base g M rv L) {i : Nat} (hi : i < M) {j gg cap : Nat} {n' : Nat} {xs : List Value} (hg : w.grownBy w' (rv i).ownBlock)
    (hown : w'.ownsRow base 3 1 (.slice (some ⟨gg, 0, none⟩) n' cap) n' xs) (hxs : xs = numsV (L i) ++ [.int .i64 (j : Int)]) (hn : n' = (L i).length + 1) (hat : (rv i).ownBlock = some gg ∨ w.heap.size ≤ gg) :
    RowsAt (w'.setCell ⟨g, i, none⟩ (.slice (some ⟨gg, 0, none⟩) n' cap)) base g M (fun k => if k = i then .slice (some ⟨gg, 0, none⟩) n' cap else rv k) (fun k => if k = i then L i ++ [j] else L k) := by
  subst hxs hn
  have hgb := h.gb
  have hlt := h.row.lt
  have hrow : w'.rowIs g 63 M rv := h.row.of_block (hg.block g hlt (fun e => by have := (h.own i hi).lt g e.symm; omega))
  have hother : ∀ k, k < M → k ≠ i → ∀ q, (rv k).ownBlock = some q → (w'.setCell ⟨g, i, none⟩ (.slice (some ⟨gg, 0, none⟩) ((L i).length + 1) cap)).heap[q]? = w.heap[q]? := by
    intro k hk hne q hq
    have hl := (h.own k hk).lt q hq
    rw [Below.heap_setCell _ _ _ _ (by show q ≠ g; omega)]
    exact hg.block q hl.2 (fun e => h.apart k i hk hi hne q hq e.symm)
  refine ⟨(hrow.set i _), hgb, ?_, ?_⟩
  · intro k hk
    by_cases e : k = i
    · subst e
      simp only [if_true, List.length_append, List.length_cons, List.length_nil, numsV_append, Nat.zero_add]
      refine owns_of_block hown (fun q hq => ?_)
      have hq' := hown.lt q hq
      exact Below.heap_setCell _ _ _ _ (by show q ≠ g; omega)
    · simp only [if_neg e]
      exact owns_of_block (h.own k hk) (hother k hk e)
  · intro a b ha hb hne q hq
    by_cases ea : a = i
    · subst ea
      have eb : b ≠ a := fun e => hne e.symm
      simp only [if_true, if_neg eb] at hq ⊢
      have hq2 : gg = q := by simpa [Value.ownBlock] using hq
      subst hq2
      intro hbq
      rcases hat with hat | hat
      · exact h.apart b a hb ha eb gg hbq hat
      · have := (h.own b hb).lt gg hbq; omega
    · by_cases eb : b = i
      · subst eb
        simp only [if_true, if_neg ea] at hq ⊢
        intro hbq
        have hq2 : gg = q := by simpa [Value.ownBlock] using hbq
        subst hq2
        rcases hat with hat | hat
        · exact h.apart a b ha hb ea gg hq hat
        · have := (h.own a ha).lt gg hq; omega
      · simp only [if_neg ea, if_neg eb] at hq ⊢
        exact h.apart a b ha hb hne q hq

/-- The rows, said otherwise. -/
theorem congr {rv' : Nat → Value} {L' : Nat → List Nat} (h : RowsAt w base g M rv L) (hr : ∀ i, i < M → rv i = rv' i) (hl : ∀ i, i < M → L i = L' i) : RowsAt w base g M rv' L' :=
  ⟨h.row.congr hr, h.gb, fun i hi => by rw [← hr i hi, ← hl i hi]; exact h.own i hi, fun i j hi hj hne => by rw [← hr i hi, ← hr j hj]; exact h.apart i j hi hj hne⟩

/-- .. from a lower block on. -/
theorem rebase {base' : Nat} (h : RowsAt w base g M rv L) (hb : base' ≤ base) (hg : g < base') : RowsAt w base' g M rv L :=
  ⟨h.row, hg, fun i hi => owns_base (h.own i hi) (fun k e => by have := (h.own i hi).lt k e; omega), h.apart⟩

theorem cell (h : RowsAt w base g M rv L) {i : Nat} (hi : i < M) : w.cell? ⟨g, i, none⟩ = some (rv i) := h.row.cell hi

end RowsAt

theorem grownBy_of_alloc {w w' : World} {o : Obj} {row : Option Nat} (h : (w.alloc o).grownBy w' row) : w.grownBy w' row :=
  ⟨h.os, h.tape, h.output, by have := h.size; simp at this; omega, fun k hk hn => (h.block k (by simp; omega) hn).trans (Below.heap_alloc w o k hk)⟩

theorem grownBy_of_drew {w w' : World} {row : Option Nat} (h : w.drew.grownBy w' row) : w.grownBy w' row :=
  ⟨h.os, h.tape, h.output, h.size, h.block⟩

/-- A cell that is appended by itself lies in a block of its own. -/
theorem one_news (w : World) (v : Value) (t : TypeId) : ∀ j u, [v][j]? = some u → (w.alloc (.cells #[v] t)).cell? ((⟨w.heap.size, 0, none⟩ : Addr).add j) = some u :=
  World.news_of_block (cs := #[v]) (t := t) (fr := (0, 0)) (heap_alloc_new w _)

theorem one_oneCell {v : Value} (h : v.oneCell' = true) : ∀ u ∈ [v], u.oneCell' = true := fun u hu => by
  have : u = v := by simpa using hu
  rw [this]; exact h

end Go.Proofs.YtnjaofkieajnlaaGreat
