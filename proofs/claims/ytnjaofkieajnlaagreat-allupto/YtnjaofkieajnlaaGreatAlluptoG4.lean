/- Texts of the proof, part 5. -/
import Derived.BigQuiet
import Derived.Deep.AppendLies
import Derived.Deep.MidRow
import Derived.Deep.OwnRows
import Derived.Deep.QuietTactic
import Derived.Test.YtnjaofkieajnlaaGreatAlluptoG0
import Derived.Test.YtnjaofkieajnlaaGreatProg
import Derived.WalkKit
import Derived.WalkLawsBesides
import Derived.WalkSpells

/- The small functions' contracts: drawing a number, making a drawer, whether a specification may be. -/
namespace Go.Proofs.YtnjaofkieajnlaaGreat
open Go.RowKit

theorem bcell {W w1 : World} (hb : Below W.heap.size W w1) : (∀ b o, b < W.heap.size → w1.cell? ⟨b, o, none⟩ = W.cell? ⟨b, o, none⟩) ∧ (∀ b o, b < W.heap.size → w1.frozen? ⟨b, o, none⟩ = W.frozen? ⟨b, o, none⟩) :=
  ⟨fun b o h => hb.cell (p := ⟨b, o, none⟩) h, fun b o h => hb.frozen (p := ⟨b, o, none⟩) h⟩

theorem ret_bool {a b : Bool} (h : a = b) : Ending.returned (.bool a) = .returned (.bool b) := by rw [h]

theorem ret_int {k : IntKind} {a b : Int} (h : a = b) : Ending.returned (.int k a) = .returned (.int k b) := by rw [h]

/-- A specification as a value. -/
abbrev specV (K M O S : Int) : Value := .agg #[.int .i64 K, .int .i64 M, .int .i64 O, .int .i64 S]

set_option maxRecDepth 100000 in
set_option maxHeartbeats 400000 in
theorem from_any (s : Int) (w : World) :
    Calls Tryz.prog 112 #[.int .i64 s] w fun e w' => e = .returned (.pointer (some ⟨w.heap.size, 0, none⟩)) ∧ w' = w.alloc (.cells #[.int .i64 s] 172) := by
  go_enter Tryz.func112, Tryz.ntmps112
  go_wp2
  go_ret
  exact ⟨rfl, rfl⟩

set_option maxRecDepth 100000 in
set_option maxHeartbeats 400000 in
theorem below_any (b : Nat) (x n : Int) (w : World) (hx : 0 ≤ x ∧ x ≤ 65536) (hn : 1 ≤ n ∧ n ≤ 20) (hc : w.cell? ⟨b, 0, none⟩ = some (.int .i64 x)) (hf : w.frozen? ⟨b, 0, none⟩ = false) :
    Calls Tryz.prog 123 #[.pointer (some ⟨b, 0, none⟩), .int .i64 n] w fun e w' => e = .returned (.int .i64 ((75 * x + 74) % 65537 % n)) ∧ w' = w.setCell ⟨b, 0, none⟩ (.int .i64 ((75 * x + 74) % 65537)) := by
  go_enter Tryz.func123, Tryz.ntmps123
  go_wp2
  go_ret
  exact ⟨rfl, rfl⟩

/-- May a specification be? -/
def mayB (K M O S : Int) : Bool := decide (1 ≤ K ∧ K ≤ 20 ∧ 1 ≤ M ∧ M ≤ 20 ∧ 1 ≤ O ∧ O ≤ M ∧ 0 ≤ S ∧ S ≤ 65535)

theorem mayB_true {K M O S : Int} (h : mayB K M O S = true) : 1 ≤ K ∧ K ≤ 20 ∧ 1 ≤ M ∧ M ≤ 20 ∧ 1 ≤ O ∧ O ≤ M ∧ 0 ≤ S ∧ S ≤ 65535 := by
  simpa [mayB] using h

theorem mayB_cases (K M O S : Int) : (mayB K M O S = true ∧ 1 ≤ K ∧ K ≤ 20 ∧ 1 ≤ M ∧ M ≤ 20 ∧ 1 ≤ O ∧ O ≤ M ∧ 0 ≤ S ∧ S ≤ 65535) ∨
    (mayB K M O S = false ∧ (K < 1 ∨ (1 ≤ K ∧ 20 < K) ∨ (1 ≤ K ∧ K ≤ 20 ∧ M < 1) ∨ (1 ≤ K ∧ K ≤ 20 ∧ 1 ≤ M ∧ 20 < M) ∨ (1 ≤ K ∧ K ≤ 20 ∧ 1 ≤ M ∧ M ≤ 20 ∧ O < 1) ∨ (1 ≤ K ∧ K ≤ 20 ∧ 1 ≤ M ∧ M ≤ 20 ∧ 1 ≤ O ∧ M < O) ∨
      (1 ≤ K ∧ K ≤ 20 ∧ 1 ≤ M ∧ M ≤ 20 ∧ 1 ≤ O ∧ O ≤ M ∧ S < 0) ∨ (1 ≤ K ∧ K ≤ 20 ∧ 1 ≤ M ∧ M ≤ 20 ∧ 1 ≤ O ∧ O ≤ M ∧ 0 ≤ S ∧ 65535 < S))) := by
  unfold mayB
  by_cases h : 1 ≤ K ∧ K ≤ 20 ∧ 1 ≤ M ∧ M ≤ 20 ∧ 1 ≤ O ∧ O ≤ M ∧ 0 ≤ S ∧ S ≤ 65535
  · exact Or.inl ⟨by simp [h], h⟩
  · refine Or.inr ⟨decide_eq_false h, ?_⟩
    omega

set_option maxRecDepth 100000 in
set_option maxHeartbeats 1000000 in
theorem maybe_any (K M O S : Int) (w : World) :
    Calls Tryz.prog 111 #[specV K M O S] w fun e w' => e = .returned (.bool (mayB K M O S)) ∧ w' = w.alloc (.cells #[.int .i64 K, .int .i64 M, .int .i64 O, .int .i64 S] 25) := by
  rcases mayB_cases K M O S with ⟨hm, h⟩ | ⟨hm, h | h | h | h | h | h | h | h⟩ <;> (rw [hm]; clear hm)
  all_goals
    go_enter Tryz.func111, Tryz.ntmps111
    go_wp2
    go_ret
    first | exact ⟨rfl, rfl⟩ | exact ⟨ret_bool (by simp; omega), rfl⟩

set_option maxRecDepth 100000 in
set_option maxHeartbeats 1000000 in
theorem may_any (K M O S : Int) (w : World) :
    Calls Tryz.prog 24 #[specV K M O S] w fun e w' => e = .returned (.bool (mayB K M O S)) ∧ w' = w.alloc (.cells #[.int .i64 K, .int .i64 M, .int .i64 O, .int .i64 S] 25) := by
  rcases mayB_cases K M O S with ⟨hm, h⟩ | ⟨hm, h | h | h | h | h | h | h | h⟩ <;> (rw [hm]; clear hm)
  all_goals
    go_enter Tryz.func24, Tryz.ntmps24
    go_wp2
    go_ret
    first | exact ⟨rfl, rfl⟩ | exact ⟨ret_bool (by simp; omega), rfl⟩

end Go.Proofs.YtnjaofkieajnlaaGreat

/- What a call may have changed ('Chg'), and rows of numbers that lie in memory ('RowsAt'): how both go on behind each step. -/
namespace Go.Proofs.YtnjaofkieajnlaaGreat
open Go.RowKit

theorem hide {p : Prop} (h : p) : Hid p := h

/-- Of the blocks that were there only those of S may have turned. -/
structure Chg (S : Nat → Prop) (w w' : World) : Prop where
  os : w'.os = w.os
  tape : w'.tape = w.tape
  output : w'.output = w.output
  size : w.heap.size ≤ w'.heap.size
  block : ∀ k, k < w.heap.size → ¬ S k → w'.heap[k]? = w.heap[k]?

namespace Chg
variable {S T : Nat → Prop} {w w1 w2 : World}

theorem refl (S : Nat → Prop) (w : World) : Chg S w w := ⟨rfl, rfl, rfl, Nat.le_refl _, fun _ _ _ => rfl⟩

theorem trans (h : Chg S w w1) (k : Chg T w1 w2) (hs : ∀ k, k < w.heap.size → T k → S k) : Chg S w w2 :=
  ⟨k.os.trans h.os, k.tape.trans h.tape, k.output.trans h.output, Nat.le_trans h.size k.size,
    fun i hi hn => (k.block i (Nat.lt_of_lt_of_le hi h.size) (fun t => hn (hs i hi t))).trans (h.block i hi hn)⟩

theorem mono (h : Chg S w w1) (hs : ∀ k, k < w.heap.size → S k → T k) : Chg T w w1 :=
  ⟨h.os, h.tape, h.output, h.size, fun k hk hn => h.block k hk (fun s => hn (hs k hk s))⟩

theorem drew (h : Chg S w w1) : Chg S w w1.drew := ⟨h.os, h.tape, h.output, h.size, h.block⟩

theorem drewN (h : Chg S w w1) (n : Nat) : Chg S w (w1.drewN n) := ⟨h.os, h.tape, h.output, h.size, h.block⟩

theorem alloc (h : Chg S w w1) (o : Obj) : Chg S w (w1.alloc o) :=
  ⟨h.os, h.tape, h.output, by have := h.size; simp; omega, fun k hk hn => (Below.heap_alloc _ _ _ (Nat.lt_of_lt_of_le hk h.size)).trans (h.block k hk hn)⟩

theorem setCell (h : Chg S w w1) {a : Addr} (ha : w.heap.size ≤ a.block ∨ S a.block) (v : Value) : Chg S w (w1.setCell a v) :=
  ⟨h.os, h.tape, h.output, by have := h.size; simp [World.setCell]; omega,
    fun k hk hn => (Below.heap_setCell _ _ _ _ (by rintro rfl; rcases ha with ha | ha; omega; exact hn ha)).trans (h.block k hk hn)⟩

theorem grown {row : Option Nat} (h : Chg S w w1) (hg : w1.grownBy w2 row) (hr : ∀ k, row = some k → w.heap.size ≤ k ∨ S k) : Chg S w w2 :=
  ⟨hg.os.trans h.os, hg.tape.trans h.tape, hg.output.trans h.output, Nat.le_trans h.size hg.size,
    fun k hk hn => (hg.block k (Nat.lt_of_lt_of_le hk h.size) (fun e => by rcases hr k e.symm with hh | hh; omega; exact hn hh)).trans (h.block k hk hn)⟩

theorem of_below (h : Below w.heap.size w w1) (S : Nat → Prop) : Chg S w w1 := ⟨h.os, h.tape, h.output, h.size, fun k hk _ => h.block k hk⟩

theorem below (h : Chg S w w1) (hs : ∀ k, k < w.heap.size → ¬ S k) : Below w.heap.size w w1 := ⟨h.os, h.tape, h.output, h.size, fun k hk => h.block k hk (hs k hk)⟩

theorem setRow (h : Chg S w w1) {g : Nat} (hg : w.heap.size ≤ g ∨ S g) (cs : Array Value) : Chg S w (w1.setRow g cs) :=
  ⟨h.os, h.tape, h.output, by have := h.size; simp; omega,
    fun k hk hn => (setRow_other _ _ _ _ (by rintro rfl; rcases hg with ha | ha; omega; exact hn ha)).trans (h.block k hk hn)⟩

theorem cell (h : Chg S w w1) {a : Addr} (ha : a.block < w.heap.size) (hn : ¬ S a.block) : w1.cell? a = w.cell? a := World.cell?_of_block (w := w) (h.block _ ha hn)
theorem frozen (h : Chg S w w1) {a : Addr} (ha : a.block < w.heap.size) (hn : ¬ S a.block) : w1.frozen? a = w.frozen? a := World.frozen?_of_block (w := w) (h.block _ ha hn)

end Chg

/-- A slice of strings or numbers that is owned reads on where its block has not turned. -/
theorem owns_of_block {w w' : World} {base : Nat} {e : TypeId} {size : Nat} {v : Value} {n : Nat} {xs : List Value} (h : w.ownsRow base e size v n xs) (hk : ∀ k, v.ownBlock = some k → w'.heap[k]? = w.heap[k]?) : w'.ownsRow base e size v n xs := by
  refine ⟨h.1, ?_⟩
  rcases h.2 with hn | ⟨g, cap, cur, rfl, hb, hgg, rest⟩
  · exact .inl hn
  · exact .inr ⟨g, cap, cur, rfl, hb, by rw [hk g rfl]; exact hgg, rest⟩

theorem owns_base {w : World} {base base' : Nat} {e : TypeId} {size : Nat} {v : Value} {n : Nat} {xs : List Value} (h : w.ownsRow base e size v n xs) (hb' : ∀ k, v.ownBlock = some k → base' ≤ k) : w.ownsRow base' e size v n xs := by
  refine ⟨h.1, ?_⟩
  rcases h.2 with hn | ⟨g, cap, cur, rfl, hb, hgg, rest⟩
  · exact .inl hn
  · exact .inr ⟨g, cap, cur, rfl, hb' g rfl, hgg, rest⟩

theorem owns_block {w : World} {base : Nat} {e : TypeId} {size : Nat} {v : Value} {n : Nat} {xs : List Value} (h : w.ownsRow base e size v n xs) {k : Nat} (hk : v.ownBlock = some k) : ∃ cur, w.heap[k]? = some (.cells cur e (0, 0)) := by
  rcases h.2 with ⟨rfl, _⟩ | ⟨g, cap, cur, rfl, _, hgg, _⟩
  · simp [Value.ownBlock] at hk
  · have : g = k := by simpa [Value.ownBlock] using hk
    subst this
    exact ⟨cur, hgg⟩

/-- An owned row lies in no block of another type. -/
theorem owns_ne {w : World} {base : Nat} {e t : TypeId} {size : Nat} {v : Value} {n m c : Nat} {xs : List Value} {f : Nat → Value} (h : w.ownsRow base e size v n xs) (hr : w.rowIs c t m f) (hne : e ≠ t) : ∀ k, v.ownBlock = some k → k ≠ c := by
  rintro k hk rfl
  obtain ⟨cur, hcur⟩ := owns_block h hk
  obtain ⟨c', hc', _⟩ := hr
  rw [hcur] at hc'
  simp at hc'
  exact hne hc'.2

/-- Numbers as values. -/
def numsV (l : List Nat) : List Value := l.map (fun n : Nat => Value.int .i64 (n : Int))

theorem numsV_append (a b : List Nat) : numsV (a ++ b) = numsV a ++ numsV b := by simp [numsV]
theorem numsV_length (l : List Nat) : (numsV l).length = l.length := by simp [numsV]

/-- Block g holds M slices; slice i is 'rv i' and owns the numbers 'L i'; their blocks lie from base on, each by itself; g lies below base. -/
structure RowsAt (w : World) (base g M : Nat) (rv : Nat → Value) (L : Nat → List Nat) : Prop where
  row : w.rowIs g 63 M rv
  gb : g < base
  own : ∀ i, i < M → w.ownsRow base 3 1 (rv i) (L i).length (numsV (L i))
  apart : ∀ i j, i < M → j < M → i ≠ j → ∀ k, (rv i).ownBlock = some k → (rv j).ownBlock ≠ some k

namespace RowsAt
variable {w w' : World} {base g M : Nat} {rv : Nat → Value} {L : Nat → List Nat}

/-- The blocks that the rows lie in have not turned. -/
theorem kept (h : RowsAt w base g M rv L) (hg : w'.heap[g]? = w.heap[g]?) (hk : ∀ k, base ≤ k → k < w.heap.size → w'.heap[k]? = w.heap[k]?) : RowsAt w' base g M rv L :=
  ⟨h.row.of_block hg, h.gb, fun i hi => owns_of_block (h.own i hi) (fun k e => by have := (h.own i hi).lt k e; exact hk k this.1 this.2), h.apart⟩

theorem chg {S : Nat → Prop} (h : RowsAt w base g M rv L) (c : Chg S w w') (hg : ¬ S g) (hk : ∀ k, base ≤ k → k < w.heap.size → ¬ S k) : RowsAt w' base g M rv L :=
  h.kept (c.block g h.row.lt hg) (fun k a b => c.block k b (hk k a b))

theorem alloc (h : RowsAt w base g M rv L) (o : Obj) : RowsAt (w.alloc o) base g M rv L :=
  h.chg ((Chg.refl (fun _ => False) w).alloc o) (fun x => x) (fun _ _ _ x => x)

theorem drew (h : RowsAt w base g M rv L) : RowsAt w.drew base g M rv L :=
  h.chg ((Chg.refl (fun _ => False) w).drew) (fun x => x) (fun _ _ _ x => x)

theorem below (h : RowsAt w base g M rv L) (c : Below w.heap.size w w') : RowsAt w' base g M rv L :=
  h.chg (Chg.of_below c (fun _ => False)) (fun x => x) (fun _ _ _ x => x)

/-- Behind 'make'. -/
theorem made (w : World) (base M : Nat) (hb : w.heap.size < base) : RowsAt (w.alloc (.cells (madeCells #[.slice none 0 0] M) 63)) base w.heap.size M (fun _ => .slice none 0 0) (fun _ => []) :=
  ⟨World.rowIs_made w (.slice none 0 0) M 63, hb, fun i _ => World.ownsRow_nil _ _ _ _, fun i j _ _ _ k h => by simp [Value.ownBlock] at h⟩

/-- A number appended to row i, the row stored back. -/
theorem push (h : RowsAt w base g M rv L) {i : Nat} (hi : i < M) {j gg cap : Nat} {n' : Nat} {xs : List Value} (hg : w.grownBy w' (rv i).ownBlock)
    (hown : w'.ownsRow base 3 1 (.slice (some ⟨gg, 0, none⟩) n' cap) n' xs) (hxs : xs = numsV (L i) ++ [.int .i64 (j : Int)]) (hn : n' = (L i).length + 1) (hat : (rv i).ownBlock = some gg ∨ w.heap.size ≤ gg) :
    RowsAt (w'.setCell ⟨g, i, none⟩ (.slice (some ⟨gg, 0, none⟩) n' cap)) base g M (fun k => if k = i then .slice (some ⟨gg, 0, none⟩) n' cap else rv k) (fun k => if k = i then L i ++ [j] else L k) := by
  subst hxs hn
  have hgb := h.gb
  have hlt := h.row.lt
  have hrow : w'.rowIs g 63 M rv := h.row.of_block (hg.block g hlt (fun e => by have := (h.own i hi).lt g e.symm; omega))
  have hother : ∀ k, k < M → k ≠ i → ∀ q, (rv k).ownBlock = some q → (w'.setCell ⟨g, i, none⟩ (.slice (some ⟨gg, 0, none⟩) ((L i).length + 1) cap)).heap[q]? = w.heap[q]? := by
    intro k hk hne q hq
    have hl := (h.own k hk).lt q hq
    rw [Below.heap_setCell _ _ _ _ (by show q ≠ g; omega)]
    exact hg.block q hl.2 (fun e => h.apart k i hk hi hne q hq e.symm)
  refine ⟨(hrow.set i _), hgb, ?_, ?_⟩
  · intro k hk
    by_cases e : k = i
    · subst e
      simp only [if_true, List.length_append, List.length_cons, List.length_nil, numsV_append, Nat.zero_add]
      refine owns_of_block hown (fun q hq => ?_)
      have hq' := hown.lt q hq
      exact Below.heap_setCell _ _ _ _ (by show q ≠ g; omega)
    · simp only [if_neg e]
      exact owns_of_block (h.own k hk) (hother k hk e)
  · intro a b ha hb hne q hq
    by_cases ea : a = i
    · subst ea
      have eb : b ≠ a := fun e => hne e.symm
      simp only [if_true, if_neg eb] at hq ⊢
      have hq2 : gg = q := by simpa [Value.ownBlock] using hq
      subst hq2
      intro hbq
      rcases hat with hat | hat
      · exact h.apart b a hb ha eb gg hbq hat
      · have := (h.own b hb).lt gg hbq; omega
    · by_cases eb : b = i
      · subst eb
        simp only [if_true, if_neg ea] at hq ⊢
        intro hbq
        have hq2 : gg = q := by simpa [Value.ownBlock] using hbq
        subst hq2
        rcases hat with hat | hat
        · exact h.apart a b ha hb ea gg hq hat
        · have := (h.own a ha).lt gg hq; omega
      · simp only [if_neg ea, if_neg eb] at hq ⊢
        exact h.apart a b ha hb hne q hq

/-- The rows, said otherwise. -/
theorem congr {rv' : Nat → Value} {L' : Nat → List Nat} (h : RowsAt w base g M rv L) (hr : ∀ i, i < M → rv i = rv' i) (hl : ∀ i, i < M → L i = L' i) : RowsAt w base g M rv' L' :=
  ⟨h.row.congr hr, h.gb, fun i hi => by rw [← hr i hi, ← hl i hi]; exact h.own i hi, fun i j hi hj hne => by rw [← hr i hi, ← hr j hj]; exact h.apart i j hi hj hne⟩

/-- .. from a lower block on. -/
theorem rebase {base' : Nat} (h : RowsAt w base g M rv L) (hb : base' ≤ base) (hg : g < base') : RowsAt w base' g M rv L :=
  ⟨h.row, hg, fun i hi => owns_base (h.own i hi) (fun k e => by have := (h.own i hi).lt k e; omega), h.apart⟩

theorem cell (h : RowsAt w base g M rv L) {i : Nat} (hi : i < M) : w.cell? ⟨g, i, none⟩ = some (rv i) := h.row.cell hi

end RowsAt

theorem grownBy_of_alloc {w w' : World} {o : Obj} {row : Option Nat} (h : (w.alloc o).grownBy w' row) : w.grownBy w' row :=
  ⟨h.os, h.tape, h.output, by have := h.size; simp at this; omega, fun k hk hn => (h.block k (by simp; omega) hn).trans (Below.heap_alloc w o k hk)⟩

theorem grownBy_of_drew {w w' : World} {row : Option Nat} (h : w.drew.grownBy w' row) : w.grownBy w' row :=
  ⟨h.os, h.tape, h.output, h.size, h.block⟩

/-- A cell that is appended by itself lies in a block of its own. -/
theorem one_news (w : World) (v : Value) (t : TypeId) : ∀ j u, [v][j]? = some u → (w.alloc (.cells #[v] t)).cell? ((⟨w.heap.size, 0, none⟩ : Addr).add j) = some u :=
  World.news_of_block (cs := #[v]) (t := t) (fr := (0, 0)) (heap_alloc_new w _)

theorem one_oneCell {v : Value} (h : v.oneCell' = true) : ∀ u ∈ [v], u.oneCell' = true := fun u hu => by
  have : u = v := by simpa using hu
  rw [this]; exact h

end Go.Proofs.YtnjaofkieajnlaaGreat

/- How the program chooses the rows of one piece: freeAt and choose. -/
namespace Go.Proofs.YtnjaofkieajnlaaGreat
open Go.RowKit

/-- Twenty marks, as an array's cells. -/
structure MarksAt (cs : Array Value) (ch : Nat → Bool) : Prop where
  size : cs.size = 20
  at_ : ∀ i, i < 20 → cs[i]? = some (.bool (ch i))

theorem MarksAt.one {cs : Array Value} {ch : Nat → Bool} (h : MarksAt cs ch) : cs.all (·.oneCell') = true := by
  rw [Array.all_eq_true_iff_forall_mem]
  intro v hv
  obtain ⟨i, hi, rfl⟩ := Array.mem_iff_getElem.1 hv
  have := h.at_ i (by have := h.size; omega)
  rw [Array.getElem?_eq_getElem hi] at this
  simp at this
  rw [this]; rfl

set_option maxRecDepth 100000 in
set_option maxHeartbeats 1000000 in
theorem freeAt_any (cs : Array Value) (ch : Nat → Bool) (d : Nat) (w : World) (hcs : MarksAt cs ch) (hd : d < (opens ch 20).length) :
    Calls Tryz.prog 124 #[.agg cs, .int .i64 (d : Int)] w fun e w' => (∃ k : Nat, e = .returned (.int .i64 (k : Int)) ∧ ch k = false ∧ (opens ch k).length = d ∧ k < 20) ∧ Below w.heap.size w w' := by
  have hd20 : d < 20 := Nat.lt_of_lt_of_le hd (opens_len_le ch 20)
  obtain ⟨hsz, hat⟩ := hcs
  have hcell : ∀ k, k < 20 → (w.alloc (.cells cs 162)).cell? ⟨w.heap.size, k, none⟩ = some (.bool (ch k)) := fun k hk => by
    rw [cell_of_row _ _ _ _ _ _ (heap_alloc_new w _)]; exact hat k hk
  clear hat
  go_enter Tryz.func124, Tryz.ntmps124
  go_wp2
  go_loop [1, 6] (fun dd i => ∃ k : Nat, k ≤ 20 ∧ i = .int .i64 k ∧ dd = .int .i64 ((d - (opens ch k).length : Nat) : Int) ∧ (opens ch k).length ≤ d) (fun _ i => 20 - (intOf i).toNat)
  case atStart => exact ⟨0, by omega, rfl, by simp [opens_zero], by simp [opens_zero]⟩
  case round =>
    obtain ⟨k, hk, rfl, rfl, hle⟩ := hrel
    have hk20 : k < 20 := by
      rcases Nat.lt_or_ge k 20 with h | h
      · exact h
      · have := opens_len_mono ch 20 k h; omega
    have hc := hcell k hk20
    have hs := opens_len_succ ch k
    clear hcell
    generalize hL : (opens ch k).length = L at *
    have HL : Hid ((opens ch k).length = L) := hL
    clear hL
    have HS : Hid ((opens ch (k + 1)).length = L + if ch k = true then 0 else 1) := hs
    clear hs
    cases hch : ch k
    · rw [hch] at hc
      by_cases he : d = L
      · have HE : Hid (d = L) := he
        have h0 : (((d - L : Nat) : Int) == 0) = true := by simp; omega
        clear he
        go_wp2
        go_ret
        exact ⟨⟨k, rfl, hch, by rw [HL.out, HE.out], hk20⟩, (Below.refl _ _).alloc (Nat.le_refl _) _⟩
      · have h0 : (((d - L : Nat) : Int) == 0) = false := by simp; omega
        go_wp2
        go_round
        case rel => exact ⟨k + 1, by omega, by go_num, by rw [HS.out, hch]; simp; omega, by rw [HS.out, hch]; simp; omega⟩
        case measure => simp [intOf]; omega
    · rw [hch] at hc
      go_wp2
      go_round
      case rel => exact ⟨k + 1, by omega, by go_num, by rw [HS.out, hch]; simp, by rw [HS.out, hch]; simp; omega⟩
      case measure => simp [intOf]; omega

theorem below_nat (b x n : Nat) (w : World) (hx : x < 65537) (hn : 1 ≤ n ∧ n ≤ 20) (hb : w.heap[b]? = some (.cells #[.int .i64 (x : Int)] 172 (0, 0))) :
    Calls Tryz.prog 123 #[.pointer (some ⟨b, 0, none⟩), .int .i64 (n : Int)] w fun e w' => e = .returned (.int .i64 ((nxt x % n : Nat) : Int)) ∧ w' = w.setCell ⟨b, 0, none⟩ (.int .i64 (nxt x : Int)) := by
  have h := below_any b (x : Int) (n : Int) w (by omega) (by omega) (by rw [cell_of_row _ _ _ _ _ _ hb]; rfl) (frozen_of_row _ _ _ _ _ hb)
  have e1 : (75 * (x : Int) + 74) % 65537 = ((nxt x : Nat) : Int) := by unfold nxt; omega
  have e2 : ((nxt x : Nat) : Int) % (n : Int) = ((nxt x % n : Nat) : Int) := by omega
  rw [e1, e2] at h
  exact h

/-- Where choose stands behind n draws: the drawer's block b, the chosen rows' block c. -/
structure ChooseAt (w0 wr : World) (b c M x n : Nat) : Prop where
  drawer : wr.heap[b]? = some (.cells #[.int .i64 ((drawn M x n).1 : Int)] 172 (0, 0))
  marks : wr.rowIs c 162 20 (fun i => .bool ((drawn M x n).2 i))
  chg : Chg (fun k => k = b) w0 wr

theorem ChooseAt.step {w0 wr w2 : World} {b c M x n k : Nat} (h : ChooseAt w0 wr b c M x n) (hb : b < w0.heap.size) (hc : w0.heap.size ≤ c) (hn : n < M)
    (hk : (drawn M x n).2 k = false) (hl : (opens (drawn M x n).2 k).length = nxt (drawn M x n).1 % (M - n))
    (h2 : Chg (fun _ => False) (wr.setCell ⟨b, 0, none⟩ (.int .i64 (nxt (drawn M x n).1 : Int))) w2) :
    ChooseAt w0 (w2.setCell ⟨c, k, none⟩ (.bool true)) b c M x (n + 1) := by
  have hlt : nxt (drawn M x n).1 % (M - n) < (opens (drawn M x n).2 M).length := by rw [drawn_open M x n (by omega)]; exact Nat.mod_lt _ (by omega)
  obtain ⟨hp, hkM⟩ := pickOpen_eq hk hl hlt
  have hbr : b < wr.heap.size := Nat.lt_of_lt_of_le hb h.chg.size
  have hcr : c < wr.heap.size := h.marks.lt
  refine ⟨?_, ?_, ?_⟩
  · rw [heap_setCell_other _ _ _ _ (by show b ≠ c; omega), h2.block b (by simp [World.setCell]; omega) (fun x => x), heap_setCell_same wr b 0 _ _ _ h.drawer]
    rfl
  · have h1 := (h.marks.setOther (a := ⟨b, 0, none⟩) (by show c ≠ b; omega) (.int .i64 (nxt (drawn M x n).1 : Int)))
    have h3 := (h1.of_block (h2.block c h1.lt (fun x => x))).set k (.bool true)
    refine h3.congr (fun i _ => ?_)
    simp only [drawn, hp]
    by_cases e : i = k
    · subst e; simp
    · have : (i == k) = false := by simp [e]
      simp [e, this]
  · exact ((h.chg.setCell (a := ⟨b, 0, none⟩) (Or.inr rfl) _).trans h2 (fun _ _ f => f.elim)).setCell (Or.inl hc) _

theorem marks_new (w : World) : (w.alloc (.cells (Array.replicate 20 (.bool false)) 162)).rowIs w.heap.size 162 20 (fun _ => .bool false) :=
  ⟨_, heap_alloc_new w _, by simp, fun i hi => by simp [hi]⟩

theorem Tryz.sizeMarks : (Tryz.prog.info? 162).map (·.size) = some 20 := by kernel_rfl

set_option maxRecDepth 100000 in
set_option maxHeartbeats 1000000 in
theorem choose_any (b x M O : Nat) (w : World) (hx : x < 65537) (hM : M ≤ 20) (hO : O ≤ M) (hb : w.heap[b]? = some (.cells #[.int .i64 (x : Int)] 172 (0, 0))) :
    Calls Tryz.prog 113 #[.pointer (some ⟨b, 0, none⟩), .int .i64 (M : Int), .int .i64 (O : Int)] w fun e w' => ∃ cs, e = .returned (.agg cs) ∧ MarksAt cs (drawn M x O).2 ∧
      w'.heap[b]? = some (.cells #[.int .i64 ((drawn M x O).1 : Int)] 172 (0, 0)) ∧ Chg (fun k => k = b) w w' := by
  have hbl : b < w.heap.size := (Array.getElem?_eq_some_iff.1 hb).1
  go_enter Tryz.func113, Tryz.ntmps113
  go_wp2
  go_loopw [8] (fun i wr => ∃ n : Nat, n ≤ O ∧ i = .int .i64 ((M - n : Nat) : Int) ∧ ChooseAt w wr b (w.heap.size + 1) M x n ∧ wr.rowIs w.heap.size 162 20 (fun _ => .bool false)) (fun i _ => (intOf i).toNat)
  case atStart =>
    refine ⟨0, Nat.zero_le _, rfl, ⟨?_, ?_, ?_⟩, ?_⟩
    · rw [Below.heap_alloc _ _ _ (by simp; omega), Below.heap_alloc _ _ _ (by omega)]; exact hb
    · have h := marks_new (w.alloc (.cells (Array.replicate 20 (.bool false)) 162))
      simp only [World.size_alloc] at h
      exact h
    · exact ((Chg.refl _ _).alloc _).alloc _
    · exact World.rowIs.alloc (marks_new w) _
  case round =>
    obtain ⟨n, hn, rfl, hat, hres⟩ := hrel
    have hbr : b < wr.heap.size := Nat.lt_of_lt_of_le hbl hat.chg.size
    have hcr : w.heap.size + 1 < wr.heap.size := hat.marks.lt
    by_cases hlt : n < O
    · go_wp2_with fail
      refine (below_nat b _ _ _ (drawn_lt M x n hx) (by omega) hat.drawer).mono ?_
      rintro e w' ⟨rfl, rfl⟩
      have hnx : nxt (drawn M x n).1 = (drawn M x (n + 1)).1 := rfl
      obtain ⟨cs, hblk, hsz, hcs⟩ := hat.marks.setOther (a := ⟨b, 0, none⟩) (by show w.heap.size + 1 ≠ b; omega) (.int .i64 (nxt (drawn M x n).1 : Int))
      have hmk : MarksAt cs (drawn M x n).2 := ⟨hsz, hcs⟩
      have hdl : nxt (drawn M x n).1 % (M - n) < (opens (drawn M x n).2 M).length := by rw [drawn_open M x n (by omega)]; exact Nat.mod_lt _ (by omega)
      have hd20 : nxt (drawn M x n).1 % (M - n) < (opens (drawn M x n).2 20).length := Nat.lt_of_lt_of_le hdl (opens_len_mono _ _ _ hM)
      have Hnx := hide hnx
      clear hnx
      go_wp2_with (refine wpList_load_row rfl 162 (.tmp 7) rfl (w.heap.size + 1) rfl 162 cs (0, 0) _ hblk Tryz.underlying162 rfl (by rw [hsz]; exact Tryz.sizeMarks) ?_)
      refine (freeAt_any cs _ _ _ hmk hd20).mono ?_
      rintro e w2 ⟨⟨k, rfl, hkf, hkl, hk20⟩, hbel⟩
      have hcg := Chg.of_below hbel (fun _ => False)
      have hrow : w2.rowIs (w.heap.size + 1) 162 20 _ := World.rowIs.of_block ⟨cs, hblk, hsz, hcs⟩ (hcg.block _ (Array.getElem?_eq_some_iff.1 hblk).1 (fun x => x))
      have hcell := hrow.cell hk20
      have hfrz := hrow.frozen k
      have hstep := hat.step hbl (by omega) (by omega) hkf hkl hcg
      have hres1 := hres.setOther (a := ⟨b, 0, none⟩) (by show w.heap.size ≠ b; omega) (.int .i64 (nxt (drawn M x n).1 : Int))
      have hres2 := (hres1.of_block (hcg.block _ hres1.lt (fun x => x))).setOther (a := ⟨w.heap.size + 1, k, none⟩) (by show w.heap.size ≠ w.heap.size + 1; omega) (.bool true)
      clear hrow hblk hcs hsz hmk hkl hkf hdl hd20 hbel hcg hres1 Hnx
      go_wp2
      go_roundw
      case rel => exact ⟨n + 1, by omega, by go_num, hstep, hres2⟩
      case measure => simp [intOf]; omega
    · have hnO : n = O := by omega
      subst hnO
      obtain ⟨cs, hblk, hsz, hcs⟩ := hat.marks
      obtain ⟨cs0, hblk0, hsz0, _⟩ := hres
      have hmk : MarksAt cs (drawn M x n).2 := ⟨hsz, hcs⟩
      have hone := hmk.one
      clear hcs
      have hfin : ∀ w', w' = wr.setRow w.heap.size cs → MarksAt cs (drawn M x n).2 ∧ w'.heap[b]? = some (.cells #[.int .i64 ((drawn M x n).1 : Int)] 172 (0, 0)) ∧ Chg (fun k => k = b) w w' := by
        rintro w' rfl
        exact ⟨hmk, by rw [setRow_other _ _ _ _ (by omega)]; exact hat.drawer, hat.chg.setRow (Or.inl (Nat.le_refl _)) cs⟩
      go_wp2_with (first | (refine wpList_load_row rfl 162 (.tmp 7) rfl (w.heap.size + 1) rfl 162 cs (0, 0) _ hblk Tryz.underlying162 rfl (by rw [hsz]; exact Tryz.sizeMarks) ?_) | (refine wpList_store_row rfl 162 (.tmp 6) (.tmp 27) rfl w.heap.size cs rfl rfl 162 cs0 hblk0 (by rw [hsz]; exact Tryz.sizeMarks) (by omega) hone ?_))
      refine bodyPost_ret (v := .agg cs) (results_cell_row Tryz.results113 _ _ w.heap.size 162 cs (0, 0) _ rfl (setRow_heap _ _ _ _ _ _ hblk0) Tryz.underlying162 rfl (by rw [hsz]; exact Tryz.sizeMarks)) rfl ⟨cs, rfl, hfin _ rfl⟩

end Go.Proofs.YtnjaofkieajnlaaGreat
