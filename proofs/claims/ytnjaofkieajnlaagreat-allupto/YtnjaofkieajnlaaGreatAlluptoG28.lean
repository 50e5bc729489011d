/- Texts of the proof, part 29. -/
import Derived.Test.YtnjaofkieajnlaaGreatAlluptoG11
import Derived.Test.YtnjaofkieajnlaaGreatAlluptoG17
import Derived.Test.YtnjaofkieajnlaaGreatAlluptoG3
import Derived.Test.YtnjaofkieajnlaaGreatAlluptoG6
import Derived.Test.YtnjaofkieajnlaaGreatAlluptoG9

/- The statement's own world of boxes: pairs of a program's box and a document's, side by side; 'made', where no box is made. -/
namespace Go.Proofs.YtnjaofkieajnlaaGreat
open Go.RowKit

/-- A pair of boxes. -/
structure PB where
  p : Nat
  r : Nat
  K : Nat
  M : Nat
  O : Nat
  S : Nat
  z : Nat
  kn : Kn
  ps : List (Nat × ByteArray)
  av : Value
  pv : Value

def PB.none : PB := ⟨0, 0, 0, 0, 0, 0, 0, kn0, [], .slice .none 0 0, .slice .none 0 0⟩

/-- The blocks of a pair. -/
def PB.fp (b : PB) (k : Nat) : Prop := k = b.p ∨ fpR b.r b.av b.pv k

structure PairAt (w : World) (b : PB) : Prop where
  spec : SpecOk b.K b.M b.O b.S b.z
  rel : Rel b.K b.M b.O b.S b.z b.kn b.ps
  cnt : b.ps.length + openK b.kn b.K = b.K
  box : BoxAt w b.p b.K (b.K + b.M) b.z (ofs b.K b.M b.O b.S) b.kn
  rbox : RBoxAt w b.r b.K b.M b.O b.S b.z b.av b.pv b.ps
  nil : b.ps.length = 0 → b.av = .slice none 0 0 ∧ b.pv = .slice none 0 0

theorem PairAt.lt {w : World} {b : PB} (h : PairAt w b) {k : Nat} (hk : b.fp k) : k < w.heap.size := by
  rcases hk with rfl | hk
  · exact h.box.lt
  · exact h.rbox.fp_lt hk

theorem PairAt.blocks {w w' : World} {b : PB} (h : PairAt w b) (hb : ∀ k, b.fp k → w'.heap[k]? = w.heap[k]?) : PairAt w' b :=
  ⟨h.spec, h.rel, h.cnt, h.box.block (hb _ (Or.inl rfl)), h.rbox.blocks (fun k hk => hb k (Or.inr hk)), h.nil⟩

/-- The blocks of a pair are of four types. -/
theorem PairAt.types {w : World} {b : PB} (h : PairAt w b) {k : Nat} (hk : b.fp k) : ∃ cs t, w.heap[k]? = some (.cells cs t (0, 0)) ∧ (t = 110 ∨ t = 70 ∨ t = 3 ∨ t = 9) := by
  rcases hk with rfl | rfl | hk | hk
  · obtain ⟨c, hc, _⟩ := h.box
    exact ⟨c, _, hc, Or.inl rfl⟩
  · exact ⟨_, _, h.rbox.box, Or.inr (Or.inl rfl)⟩
  · obtain ⟨c, hc⟩ := owns_block h.rbox.oa hk
    exact ⟨c, _, hc, Or.inr (Or.inr (Or.inl rfl))⟩
  · obtain ⟨c, hc⟩ := owns_block h.rbox.op hk
    exact ⟨c, _, hc, Or.inr (Or.inr (Or.inr rfl))⟩

/-- Pairs as values: two pointers each. -/
def pairV : List PB → List Value
  | [] => []
  | b :: l => .pointer (some ⟨b.p, 0, none⟩) :: .pointer (some ⟨b.r, 0, none⟩) :: pairV l

theorem pairV_append (a b : List PB) : pairV (a ++ b) = pairV a ++ pairV b := by
  induction a with
  | nil => rfl
  | cons f a ih => simp [pairV, ih]

theorem pairV_length (l : List PB) : (pairV l).length = l.length * 2 := by
  induction l with
  | nil => rfl
  | cons f l ih => simp [pairV, ih]; omega

theorem pairV_get (l : List PB) (k : Nat) (h : k < l.length) : (pairV l)[k * 2]? = some (.pointer (some ⟨(l.getD k PB.none).p, 0, none⟩)) ∧ (pairV l)[k * 2 + 1]? = some (.pointer (some ⟨(l.getD k PB.none).r, 0, none⟩)) := by
  induction l generalizing k with
  | nil => simp at h
  | cons f l ih =>
    cases k with
    | zero => exact ⟨rfl, rfl⟩
    | succ k =>
      have := ih k (by simpa using h)
      rw [show (k + 1) * 2 = k * 2 + 1 + 1 from by omega]
      exact this

theorem pairV_set (l : List PB) (i : Nat) (b : PB) (hp : b.p = (l.getD i PB.none).p) (hr : b.r = (l.getD i PB.none).r) : pairV (l.set i b) = pairV l := by
  induction l generalizing i with
  | nil => rfl
  | cons f l ih =>
    cases i with
    | zero =>
      have hp' : b.p = f.p := hp
      have hr' : b.r = f.r := hr
      simp [pairV, hp', hr']
    | succ i => simp only [List.set_cons_succ, pairV]; rw [ih i hp hr]

theorem getD_setB (l : List PB) (i j : Nat) (b : PB) (hi : i < l.length) : (l.set i b).getD j PB.none = if j = i then b else l.getD j PB.none := by
  rw [List.getD_eq_getElem?_getD, List.getD_eq_getElem?_getD]
  by_cases e : j = i
  · subst e; rw [if_pos rfl, List.getElem?_set_self hi]; rfl
  · rw [if_neg e, List.getElem?_set_ne (fun h => e h.symm)]

theorem getD_snoc (l : List PB) (b : PB) (j : Nat) : (l ++ [b]).getD j PB.none = if j < l.length then l.getD j PB.none else if j = l.length then b else PB.none := by
  rw [List.getD_eq_getElem?_getD, List.getD_eq_getElem?_getD]
  by_cases h : j < l.length
  · rw [if_pos h, List.getElem?_append_left h]
  · rw [if_neg h, List.getElem?_append_right (by omega)]
    by_cases e : j = l.length
    · rw [if_pos e, e, Nat.sub_self]; rfl
    · rw [if_neg e, List.getElem?_eq_none (by simp; omega)]; rfl

/-- All of it, in worlds that only new blocks part from w0. -/
structure BoxesAt (w0 w : World) (wb : Nat) (bsv : Value) (bl : List PB) : Prop where
  world : w.heap[wb]? = some (worldB bsv)
  own : w.ownsRow 0 72 2 bsv bl.length (pairV bl)
  each : ∀ i, i < bl.length → PairAt w (bl.getD i PB.none)
  apart : ∀ i j, i < bl.length → j < bl.length → i ≠ j → ∀ k, (bl.getD i PB.none).fp k → ¬ (bl.getD j PB.none).fp k
  newW : w0.heap.size ≤ wb
  newB : ∀ k, bsv.ownBlock = some k → w0.heap.size ≤ k
  newP : ∀ i, i < bl.length → ∀ k, (bl.getD i PB.none).fp k → w0.heap.size ≤ k
  below : Below w0.heap.size w0 w

namespace BoxesAt
variable {w0 w w' : World} {wb : Nat} {bsv : Value} {bl : List PB}

theorem lt (h : BoxesAt w0 w wb bsv bl) : wb < w.heap.size := (Array.getElem?_eq_some_iff.1 h.world).1

/-- No pair has the world's block, nor the list's. -/
theorem not_world (h : BoxesAt w0 w wb bsv bl) {i : Nat} (hi : i < bl.length) : ¬ (bl.getD i PB.none).fp wb := fun hk => by
  obtain ⟨cs, t, hc, ht⟩ := (h.each i hi).types hk
  rw [h.world] at hc
  simp at hc
  obtain ⟨_, rfl⟩ := hc
  rcases ht with ht | ht | ht | ht <;> exact absurd ht (by decide)

theorem not_list (h : BoxesAt w0 w wb bsv bl) {i : Nat} (hi : i < bl.length) {k : Nat} (hk : bsv.ownBlock = some k) : ¬ (bl.getD i PB.none).fp k := fun hf => by
  obtain ⟨cs, t, hc, ht⟩ := (h.each i hi).types hf
  obtain ⟨cur, hcur⟩ := owns_block h.own hk
  rw [hcur] at hc
  simp at hc
  obtain ⟨_, rfl⟩ := hc
  rcases ht with ht | ht | ht | ht <;> exact absurd ht (by decide)

theorem on (h : BoxesAt w0 w wb bsv bl) (hb : Below w.heap.size w w') : BoxesAt w0 w' wb bsv bl :=
  ⟨by rw [hb.block _ h.lt]; exact h.world, owns_of_block h.own (fun k hk => hb.block k (h.own.lt k hk).2), fun i hi => (h.each i hi).blocks (fun k hk => hb.block k ((h.each i hi).lt hk)), h.apart, h.newW, h.newB, h.newP, h.below.trans (hb.mono h.below.size)⟩

/-- One pair has turned. -/
theorem update (h : BoxesAt w0 w wb bsv bl) {i : Nat} (hi : i < bl.length) {b : PB} (hc : Chg (bl.getD i PB.none).fp w w') (hp : PairAt w' b) (e1 : b.p = (bl.getD i PB.none).p) (e2 : b.r = (bl.getD i PB.none).r) (hn : ∀ k, b.fp k → (bl.getD i PB.none).fp k ∨ w.heap.size ≤ k) : BoxesAt w0 w' wb bsv (bl.set i b) := by
  have hs := h.below.size
  refine ⟨?_, ?_, ?_, ?_, h.newW, h.newB, ?_, ?_⟩
  · rw [hc.block wb h.lt (h.not_world hi)]; exact h.world
  · rw [List.length_set, pairV_set bl i b e1 e2]
    exact owns_of_block h.own (fun k hk => hc.block k (h.own.lt k hk).2 (h.not_list hi hk))
  · intro j hj
    rw [List.length_set] at hj
    rw [getD_setB bl i j b hi]
    by_cases e : j = i
    · rw [if_pos e]; exact hp
    · rw [if_neg e]
      exact (h.each j hj).blocks (fun k hk => hc.block k ((h.each j hj).lt hk) (h.apart j i hj hi e k hk))
  · intro a c ha hcc hne k hk
    rw [List.length_set] at ha hcc
    rw [getD_setB bl i a b hi] at hk
    rw [getD_setB bl i c b hi]
    by_cases ea : a = i
    · rw [if_pos ea] at hk
      have ec : c ≠ i := fun e => hne (ea.trans e.symm)
      rw [if_neg ec]
      rcases hn k hk with h1 | h1
      · exact h.apart i c hi hcc (fun e => ec e.symm) k h1
      · intro h2
        have := (h.each c hcc).lt h2
        omega
    · rw [if_neg ea] at hk
      by_cases ec : c = i
      · rw [if_pos ec]
        intro h2
        rcases hn k h2 with h1 | h1
        · exact h.apart a i ha hi ea k hk h1
        · have := (h.each a ha).lt hk
          omega
      · rw [if_neg ec]; exact h.apart a c ha hcc hne k hk
  · intro j hj k hk
    rw [List.length_set] at hj
    rw [getD_setB bl i j b hi] at hk
    by_cases e : j = i
    · rw [if_pos e] at hk
      rcases hn k hk with h1 | h1
      · exact h.newP i hi k h1
      · omega
    · rw [if_neg e] at hk; exact h.newP j hj k hk
  · exact below_chg h.below hc (fun k hk => h.newP i hi k hk)

end BoxesAt

end Go.Proofs.YtnjaofkieajnlaaGreat

namespace Go.Proofs.YtnjaofkieajnlaaGreat
open Go.RowKit

set_option maxRecDepth 100000 in
set_option maxHeartbeats 8000000 in
theorem made_bad (w0 : World) (wb : Nat) (bsv : Value) (bl : List PB) (k a b c K M O S : Int) (s : ByteArray) (lv : Value) (w : World) (hat : BoxesAt w0 w wb bsv bl) (hm : mayB K M O S = false) :
    Calls Tryz.prog 11 #[.pointer (some ⟨wb, 0, none⟩), .agg (opC k a b c K M O S s lv)] w fun e w' => e = .returned (.bool true) ∧ BoxesAt w0 w' wb bsv bl := by
  have hnew := fun W => new_bad K M O S a W hm
  have hma := fun W => may_below K M O S W
  have hmay : mayB K M O S = false := hm
  rw [hmay] at hma
  have hat1 := hat.on ((Below.refl _ _).alloc (Nat.le_refl _) (.cells (opC k a b c K M O S s lv) 29))
  have hop : (w.alloc (.cells (opC k a b c K M O S s lv) 29)).heap[w.heap.size]? = some (.cells (opC k a b c K M O S s lv) 29 (0, 0)) := heap_alloc_new w _
  go_enter Tryz.func11, Tryz.ntmps11
  go_wp2_with fail
  refine (hnew _).mono ?_
  rintro e w1 ⟨rfl, hb1⟩
  have hat2 := hat1.on hb1
  have hop1 := block_on hop hb1
  obtain ⟨c0, c1, c2, c4, c5, c6, c7, c8⟩ := op_cells hop1
  clear hat1 hop hat hb1 hnew
  go_wp2_with fail
  refine (hma _).mono ?_
  rintro e w2 ⟨rfl, hb2⟩
  have hat3 := hat2.on hb2
  have hop2 := block_on hop1 hb2
  clear c0 c1 c2 c4 c5 c6 c7 c8 hat2 hop1 hb2 hma
  obtain ⟨c0, c1, c2, c4, c5, c6, c7, c8⟩ := op_cells hop2
  go_wp2_with fail
  go_ret
  exact ⟨rfl, hat3⟩

set_option maxRecDepth 100000 in
set_option maxHeartbeats 8000000 in
theorem made_arg (w0 : World) (wb : Nat) (bsv : Value) (bl : List PB) (k a b c : Int) (K M O S : Nat) (s : ByteArray) (lv : Value) (w : World) (hat : BoxesAt w0 w wb bsv bl) (hK : 1 ≤ K ∧ K ≤ 20) (hM : 1 ≤ M ∧ M ≤ 20) (hO : 1 ≤ O ∧ O ≤ M) (hS : S ≤ 65535) (hz : a < 1 ∨ 16 < a) :
    Calls Tryz.prog 11 #[.pointer (some ⟨wb, 0, none⟩), .agg (opC k a b c K M O S s lv)] w fun e w' => e = .returned (.bool true) ∧ BoxesAt w0 w' wb bsv bl := by
  have hnew := fun W => new_arg K M O S a W hK hM hO hS hz
  have hma := fun W => may_below K M O S W
  have hmay : mayB K M O S = true := by simp [mayB]; omega
  rw [hmay] at hma
  have hat1 := hat.on ((Below.refl _ _).alloc (Nat.le_refl _) (.cells (opC k a b c K M O S s lv) 29))
  have hop : (w.alloc (.cells (opC k a b c K M O S s lv) 29)).heap[w.heap.size]? = some (.cells (opC k a b c K M O S s lv) 29 (0, 0)) := heap_alloc_new w _
  go_enter Tryz.func11, Tryz.ntmps11
  go_wp2_with fail
  refine (hnew _).mono ?_
  rintro e w1 ⟨rfl, hb1⟩
  have hat2 := hat1.on hb1
  have hop1 := block_on hop hb1
  obtain ⟨c0, c1, c2, c4, c5, c6, c7, c8⟩ := op_cells hop1
  clear hat1 hop hat hb1 hnew
  go_wp2_with fail
  refine (hma _).mono ?_
  rintro e w2 ⟨rfl, hb2⟩
  have hat3 := hat2.on hb2
  have hop2 := block_on hop1 hb2
  clear c0 c1 c2 c4 c5 c6 c7 c8 hat2 hop1 hb2 hma
  obtain ⟨c0, c1, c2, c4, c5, c6, c7, c8⟩ := op_cells hop2
  by_cases ha : a < 1
  · have hd : decide (a < 1) = true := decide_eq_true ha
    go_wp2_with fail
    go_ret
    exact ⟨rfl, hat3⟩
  · have hd : decide (a < 1) = false := decide_eq_false ha
    have hd2 : (16 : Int) < a := by omega
    go_wp2_with fail
    go_ret
    exact ⟨rfl, hat3⟩

theorem pair_not {w : World} {b : PB} (h : PairAt w b) {k : Nat} {cs : Array Value} {t : TypeId} (hb : w.heap[k]? = some (.cells cs t (0, 0))) (h1 : t ≠ 110) (h2 : t ≠ 70) (h3 : t ≠ 3) (h4 : t ≠ 9) : ¬ b.fp k := fun hk => by
  obtain ⟨cs', t', hc, ht⟩ := h.types hk
  rw [hb] at hc
  simp at hc
  obtain ⟨_, rfl⟩ := hc
  rcases ht with ht | ht | ht | ht
  · exact h1 ht
  · exact h2 ht
  · exact h3 ht
  · exact h4 ht

/-- One pair more. -/
theorem BoxesAt.snoc {w0 w w3 : World} {wb : Nat} {bsv : Value} {bl : List PB} (h : BoxesAt w0 w wb bsv bl) {b : PB} {g cap n : Nat} (hp : PairAt w b) (hd : ∀ i, i < bl.length → ∀ k, (bl.getD i PB.none).fp k → ¬ b.fp k) (hn : ∀ k, b.fp k → w0.heap.size ≤ k)
    (hg : w.grownBy w3 bsv.ownBlock) (hown : w3.ownsRow 0 72 2 (.slice (some ⟨g, 0, none⟩) n cap) n (pairV (bl ++ [b]))) (hl : n = bl.length + 1) (hat : bsv.ownBlock = some g ∨ w.heap.size ≤ g) :
    BoxesAt w0 (w3.setCell ⟨wb, 6, none⟩ (.slice (some ⟨g, 0, none⟩) n cap)) wb (.slice (some ⟨g, 0, none⟩) n cap) (bl ++ [b]) := by
  subst hl
  have hwl : bsv.ownBlock ≠ some wb := owns_other h.own h.world (by decide)
  have hw3 : w3.heap[wb]? = some (worldB bsv) := by rw [hg.block wb h.lt (fun e => hwl e.symm)]; exact h.world
  have hgw : (.slice (some ⟨g, 0, none⟩) (bl.length + 1) cap : Value).ownBlock ≠ some wb := owns_other hown hw3 (by decide)
  have hkeep : ∀ k, k < w.heap.size → bsv.ownBlock ≠ some k → k ≠ wb → (w3.setCell ⟨wb, 6, none⟩ (.slice (some ⟨g, 0, none⟩) (bl.length + 1) cap)).heap[k]? = w.heap[k]? := fun k hk h1 h2 => by
    rw [heap_setCell_other _ _ _ _ h2]
    exact hg.block k hk (fun e => h1 e.symm)
  have hb1 : ¬ b.fp wb := pair_not hp h.world (by decide) (by decide) (by decide) (by decide)
  have hb2 : ∀ k, bsv.ownBlock = some k → ¬ b.fp k := fun k hk => by
    obtain ⟨cur, hcur⟩ := owns_block h.own hk
    exact pair_not hp hcur (by decide) (by decide) (by decide) (by decide)
  have hs := h.below.size
  have hgn : w0.heap.size ≤ g := by
    rcases hat with e | e
    · exact h.newB g e
    · omega
  refine ⟨?_, ?_, ?_, ?_, h.newW, ?_, ?_, ?_⟩
  · rw [heap_setCell_same _ _ _ _ _ _ hw3]; rfl
  · rw [List.length_append]
    exact owns_of_block hown (fun k hk => heap_setCell_other _ _ _ _ (by rintro rfl; exact hgw hk))
  · intro i hi
    rw [List.length_append] at hi
    rw [getD_snoc]
    by_cases e : i < bl.length
    · rw [if_pos e]
      exact (h.each i e).blocks (fun k hk => hkeep k ((h.each i e).lt hk) (fun x => h.not_list e x hk) (fun x => h.not_world e (x ▸ hk)))
    · rw [if_neg e, if_pos (by simp at hi; omega)]
      exact hp.blocks (fun k hk => hkeep k (hp.lt hk) (fun x => hb2 k x hk) (fun x => hb1 (x ▸ hk)))
  · intro i j hi hj hne k hk
    rw [List.length_append] at hi hj
    rw [getD_snoc] at hk ⊢
    simp at hi hj
    by_cases ei : i < bl.length
    · rw [if_pos ei] at hk
      by_cases ej : j < bl.length
      · rw [if_pos ej]; exact h.apart i j ei ej hne k hk
      · rw [if_neg ej, if_pos (by omega)]; exact hd i ei k hk
    · rw [if_neg ei, if_pos (by omega)] at hk
      have ej : j < bl.length := by omega
      rw [if_pos ej]
      exact fun h2 => hd j ej k h2 hk
  · intro k hk
    have : g = k := by simpa [Value.ownBlock] using hk
    omega
  · intro i hi k hk
    rw [List.length_append] at hi
    simp at hi
    rw [getD_snoc] at hk
    by_cases ei : i < bl.length
    · rw [if_pos ei] at hk; exact h.newP i ei k hk
    · rw [if_neg ei, if_pos (by omega)] at hk; exact hn k hk
  · refine (h.below.grown hg hs (fun k e => h.newB k e)).setCell h.newW _

theorem Tryz.infoPair : (Tryz.prog.info? 72).map (fun i => (i.zero, i.size, i.bytes)) = some (some (.agg #[.pointer none, .pointer none]), 2, 16) := by kernel_rfl

end Go.Proofs.YtnjaofkieajnlaaGreat

/- The statement's own 'made', where a box is made. -/
namespace Go.Proofs.YtnjaofkieajnlaaGreat
open Go.RowKit

set_option maxRecDepth 100000 in
set_option maxHeartbeats 8000000 in
theorem made_ok (w0 : World) (wb : Nat) (bsv : Value) (bl : List PB) (k b c : Int) (K M O S z : Nat) (s : ByteArray) (lv : Value) (w : World) (hat : BoxesAt w0 w wb bsv bl) (hl : bl.length ≤ 4000000000000) (hK : 1 ≤ K ∧ K ≤ 20) (hM : 1 ≤ M ∧ M ≤ 20) (hO : 1 ≤ O ∧ O ≤ M) (hS : S ≤ 65535) (hz : 1 ≤ z ∧ z ≤ 16) :
    Calls Tryz.prog 11 #[.pointer (some ⟨wb, 0, none⟩), .agg (opC k z b c K M O S s lv)] w fun e w' => e = .returned (.bool true) ∧ ∃ bsv' bl', BoxesAt w0 w' wb bsv' bl' ∧ bl'.length = bl.length + 1 := by
  have hnew := fun W => new_ok K M O S z W hK hM hO hS hz
  have hma := fun W => may_below K M O S W
  have hmay : mayB K M O S = true := by simp [mayB]; omega
  rw [hmay] at hma
  obtain ⟨i0, hii, hz0, hz1, hz2⟩ := info_parts Tryz.infoPair
  have hat1 := hat.on ((Below.refl _ _).alloc (Nat.le_refl _) (.cells (opC k z b c K M O S s lv) 29))
  have hop : (w.alloc (.cells (opC k z b c K M O S s lv) 29)).heap[w.heap.size]? = some (.cells (opC k z b c K M O S s lv) 29 (0, 0)) := heap_alloc_new w _
  go_enter Tryz.func11, Tryz.ntmps11
  go_wp2_with fail
  refine (hnew _).mono ?_
  rintro e w1 ⟨p, rfl, hbox, hp, hb1⟩
  have hat2 := hat1.on hb1
  have hop1 := block_on hop hb1
  obtain ⟨c0, c1, c2, c4, c5, c6, c7, c8⟩ := op_cells hop1
  have hpd : ∀ i, i < bl.length → ¬ (bl.getD i PB.none).fp p := fun i hi h => by
    have h1 := (hat1.each i hi).lt h
    omega
  have hp0 : w0.heap.size ≤ p := by have := hat1.below.size; omega
  clear hat1 hop hat hb1 hnew hp
  go_wp2_with fail
  refine (hma _).mono ?_
  rintro e w2 ⟨rfl, hb2⟩
  have hat3 := hat2.on hb2
  have hop2 := block_on hop1 hb2
  have hbox2 := hbox.on (Nat.le_refl _) hb2
  clear c0 c1 c2 c4 c5 c6 c7 c8 hat2 hop1 hb2 hma hbox
  obtain ⟨c0, c1, c2, c4, c5, c6, c7, c8⟩ := op_cells hop2
  have hcb : w2.cell? ⟨wb, 6, none⟩ = some bsv := by rw [cell_of_row _ _ _ _ _ _ hat3.world]; rfl
  have hfb := found_frozen hat3.world 6
  have z1 : ¬ (z : Int) < 1 := by omega
  have z2 : ¬ (16 : Int) < (z : Int) := by omega
  have hwl := hat3.lt
  have hopl : w.heap.size < w2.heap.size := (Array.getElem?_eq_some_iff.1 hop2).1
  have hbw : bsv.ownBlock ≠ some wb := owns_other hat3.own hat3.world (by decide)
  have hsp : SpecOk K M O S z := ⟨hK, hM, hO, hS, hz⟩
  have hA := hat3.on ((Below.refl _ _).alloc (Nat.le_refl _) (rboxB K M O S z (.slice none 0 0) (.slice none 0 0)))
  have hpair : PairAt (w2.alloc (rboxB K M O S z (.slice none 0 0) (.slice none 0 0))) ⟨p, w2.heap.size, K, M, O, S, z, kn0, [], .slice none 0 0, .slice none 0 0⟩ :=
    ⟨hsp, Rel.new K M O S z, by show 0 + openK kn0 K = K; rw [openK_kn0, Nat.zero_add], hbox2.on (Nat.le_refl _) ((Below.refl _ _).alloc (Nat.le_refl _) _), ⟨heap_alloc_new w2 _, World.ownsRow_nil _ _ _ _, World.ownsRow_nil _ _ _ _⟩, fun _ => ⟨rfl, rfl⟩⟩
  have hfpb : ∀ x, (PB.fp ⟨p, w2.heap.size, K, M, O, S, z, kn0, [], .slice none 0 0, .slice none 0 0⟩ x) → x = p ∨ x = w2.heap.size := fun x hx => by
    rcases hx with hx | hx | hx | hx
    · exact Or.inl hx
    · exact Or.inr hx
    · simp [Value.ownBlock] at hx
    · simp [Value.ownBlock] at hx
  have hfin : ∀ g cap w3, w3.ownsRow 0 72 2 (.slice (some ⟨g, 0, none⟩) (bl.length + 1) cap) (bl.length + 1) (pairV bl ++ [.pointer (some ⟨p, 0, none⟩), .pointer (some ⟨w2.heap.size, 0, none⟩)]) → (w2.alloc (rboxB K M O S z (.slice none 0 0) (.slice none 0 0))).grownBy w3 bsv.ownBlock → (bsv.ownBlock = some g ∨ g = w2.heap.size + 1 + 1) →
      ∃ bsv' bl', BoxesAt w0 (w3.setCell ⟨wb, 6, none⟩ (.slice (some ⟨g, 0, none⟩) (bl.length + 1) cap)) wb bsv' bl' ∧ bl'.length = bl.length + 1 := fun g cap w3 ho hg ha => by
    refine ⟨_, bl ++ [⟨p, w2.heap.size, K, M, O, S, z, kn0, [], .slice none 0 0, .slice none 0 0⟩], hA.snoc hpair (fun i hi x hx hx2 => ?_) (fun x hx => ?_) hg (by rw [pairV_append]; exact ho) rfl ?_, by simp⟩
    · rcases hfpb x hx2 with rfl | rfl
      · exact hpd i hi hx
      · have := (hat3.each i hi).lt hx
        omega
    · rcases hfpb x hx with rfl | rfl
      · exact hp0
      · exact hat3.below.size
    · rcases ha with h | h
      · exact Or.inl h
      · right; simp; omega
  have HF := hide hfin
  have hown0 := hat3.own
  clear hfin hfpb hpair hA hpd hbox2 hp0 hsp
  go_wp2_with fail
  go_region_law ((refine step_append_lies _ (by rfl) (.tmp 48) (.tmp 57) 33 (by rfl) 0 72 i0 (.agg #[.pointer none, .pointer none]) 2 16 Tryz.underlying33 hii hz0 hz1 hz2 rfl (by decide) _ _ _ (by rfl) (World.ownsRow.drew (World.ownsRow.alloc (World.ownsRow.alloc hown0 _) _)) ⟨w2.heap.size + 1, 0, none⟩ 1 1 [.pointer (some ⟨p, 0, none⟩), .pointer (some ⟨w2.heap.size, 0, none⟩)] (by rfl) rfl (World.news_of_block (cs := #[_, _]) (heap_alloc2 w2 _ _)) (by intro u hu; simp at hu; rcases hu with rfl | rfl <;> rfl) (by decide) (by unfold maxLen; omega) (by omega) (Nat.zero_le _) (w2.heap.size + 1 + 1) (by simp) ?_; intro g cap w3 hown3 hgr3 hat4 hlt3; have hgr := grownBy_of_alloc (grownBy_of_alloc (grownBy_of_drew hgr3)); have q6 := (hgr.cell_far ⟨wb, 6, none⟩ hwl (fun e => hbw e.symm)).trans hcb; have f6 := (hgr.frozen_far ⟨wb, 6, none⟩ hwl (fun e => hbw e.symm)).trans hfb))
  all_goals
    have hend := HF.out g cap w3 hown3 (grownBy_of_alloc (grownBy_of_drew hgr3)) hat4
    clear HF hown3 hgr3 hgr hat4 q6 f6 hat3 hop2 hown0 c0 c1 c2 c4 c5 c6 c7 c8 hcb hfb
    go_wp2_with fail
    go_ret
    exact ⟨rfl, hend⟩

end Go.Proofs.YtnjaofkieajnlaaGreat

/- The statement's own 'boxed': Put, Get and Need. -/
namespace Go.Proofs.YtnjaofkieajnlaaGreat
open Go.RowKit

theorem PairAt.parted {w : World} {b : PB} (h : PairAt w b) {k : Nat} (hk : fpR b.r b.av b.pv k) : k ≠ b.p := by
  rintro rfl
  obtain ⟨c, hc, _⟩ := h.box
  rcases hk with hk | hk | hk
  · have := h.rbox.box
    rw [← hk, hc] at this
    simp at this
  · exact owns_other h.rbox.oa hc (by decide) hk
  · exact owns_other h.rbox.op hc (by decide) hk

/-- A pair's cells in the list of pairs. -/
theorem BoxesAt.cells {w0 w : World} {wb : Nat} {bsv : Value} {bl : List PB} (h : BoxesAt w0 w wb bsv bl) {j : Nat} (hj : j < bl.length) : ∃ g cap, bsv = .slice (some ⟨g, 0, none⟩) bl.length cap ∧ g < w.heap.size ∧ w.cell? ⟨g, j * 2, none⟩ = some (.pointer (some ⟨(bl.getD j PB.none).p, 0, none⟩)) ∧ w.cell? ⟨g, j * 2 + 1, none⟩ = some (.pointer (some ⟨(bl.getD j PB.none).r, 0, none⟩)) := by
  rcases h.own.2 with ⟨_, hn⟩ | ⟨g, cap, cur, he, _, hg, hc, _, _, ht⟩
  · omega
  · refine ⟨g, cap, he, (Array.getElem?_eq_some_iff.1 hg).1, ?_⟩
    rw [cell_of_row _ _ _ _ _ _ hg, cell_of_row _ _ _ _ _ _ hg]
    obtain ⟨h1, h2⟩ := pairV_get bl j hj
    rw [← ht, List.getElem?_take, if_pos (by omega)] at h1
    rw [← ht, List.getElem?_take, if_pos (by omega)] at h2
    exact ⟨by simpa using h1, by simpa using h2⟩

set_option maxRecDepth 100000 in
set_option maxHeartbeats 8000000 in
theorem boxed_any (w0 : World) (wb : Nat) (bsv : Value) (bl : List PB) (k a b c K M O S : Int) (s : ByteArray) (lv : Value) (w : World) (hat : BoxesAt w0 w wb bsv bl) (ha1 : -9223372036854775808 ≤ a) (ha2 : a ≤ 9223372036854775807) (hk : k = 2 ∨ k = 3 ∨ k = 4) :
    Calls Tryz.prog 12 #[.pointer (some ⟨wb, 0, none⟩), .agg (opC k a b c K M O S s lv)] w fun e w' => e = .returned (.bool true) ∧ ∃ bl', BoxesAt w0 w' wb bsv bl' ∧ bl'.length = bl.length := by
  have hat1 := hat.on ((Below.refl _ _).alloc (Nat.le_refl _) (.cells (opC k a b c K M O S s lv) 29))
  have hop : (w.alloc (.cells (opC k a b c K M O S s lv) 29)).heap[w.heap.size]? = some (.cells (opC k a b c K M O S s lv) 29 (0, 0)) := heap_alloc_new w _
  have hcb : (w.alloc (.cells (opC k a b c K M O S s lv) 29)).cell? ⟨wb, 6, none⟩ = some bsv := by rw [cell_of_row _ _ _ _ _ _ hat1.world]; rfl
  have hcb0 : w.cell? ⟨wb, 6, none⟩ = some bsv := by rw [cell_of_row _ _ _ _ _ _ hat.world]; rfl
  have hwl := hat.lt
  by_cases hl0 : bl.length = 0
  · have hbv : ∃ ao cap, bsv = .slice ao 0 cap := by
      rcases hat.own.2 with ⟨h, _⟩ | ⟨g, cap, cur, h, _⟩
      · exact ⟨none, 0, h⟩
      · exact ⟨_, cap, by rw [hl0] at h; exact h⟩
    obtain ⟨ao, cap, rfl⟩ := hbv
    go_enter Tryz.func12, Tryz.ntmps12
    go_wp2_with fail
    go_ret
    exact ⟨rfl, bl, hat1, rfl⟩
  · have hjl := placeOf_lt bl.length a (by omega)
    have hjp := pick_place' a bl.length (by omega)
    generalize placeOf bl.length a = j at *
    obtain ⟨g, cap, rfl, hg, p0, p1⟩ := hat.cells hjl
    have hpk := fun W => lpick_any a (bl.length : Int) W ha1 ha2 (by omega)
    rw [hjp] at hpk
    clear hjp
    have q0 := (((Below.refl w.heap.size w).alloc (Nat.le_refl _) (.cells (opC k a b c K M O S s lv) 29)).cell (p := ⟨g, j * 2, none⟩) hg).trans p0
    have q1 := (((Below.refl w.heap.size w).alloc (Nat.le_refl _) (.cells (opC k a b c K M O S s lv) 29)).cell (p := ⟨g, j * 2 + 1, none⟩) hg).trans p1
    obtain ⟨c0, c1, c2, c4, c5, c6, c7, c8⟩ := op_cells hop
    have i1 : (0 : Int) ≤ (j : Int) := by omega
    have i2 : (j : Int) < (bl.length : Int) := by omega
    have hbn : ((bl.length : Int) == 0) = false := beq_eq_false_iff_ne.2 (by omega)
    generalize hpp : (bl.getD j PB.none).p = p at *
    generalize hrr : (bl.getD j PB.none).r = r at *
    go_enter Tryz.func12, Tryz.ntmps12
    go_upto_region 3 with fail
    generalize hW : w.alloc (.cells (opC k a b c K M O S s lv) 29) = W at *
    have hWs : W.heap.size = w.heap.size + 1 := by rw [← hW]; simp
    go_cut [5] (fun s5 wc => ∃ x, s5 = .pointer (some ⟨x, 0, none⟩) ∧ wc.heap[x]? = some (.cells #[.pointer (some ⟨p, 0, none⟩), .pointer (some ⟨r, 0, none⟩)] 72 (0, 0)) ∧ W.heap.size ≤ x ∧ Below W.heap.size W wc)
    case first =>
      have hbf := ((Below.refl W.heap.size W).alloc (Nat.le_refl _) (.cells #[.pointer (some ⟨p, 0, none⟩), .pointer (some ⟨r, 0, none⟩)] 72)).drew
      have hnw := heap_alloc_new W (.cells #[.pointer (some ⟨p, 0, none⟩), .pointer (some ⟨r, 0, none⟩)] 72)
      have hgW : g < W.heap.size := by omega
      have hwW : wb < W.heap.size := by omega
      have hoW : w.heap.size < W.heap.size := by omega
      clear hat hat1 hop hcb0 p0 p1 c0 c2 c4 c5 c6 c7 c8
      go_region_held3 (fun w' => w'.cell? ⟨wb, 6, none⟩ = some (.slice (some ⟨g, 0, none⟩) bl.length cap) ∧ w'.cell? ⟨w.heap.size, 1, none⟩ = some (.int .i64 a) ∧ w'.cell? ⟨g, j * 2, none⟩ = some (.pointer (some ⟨p, 0, none⟩)) ∧ w'.cell? ⟨g, j * 2 + 1, none⟩ = some (.pointer (some ⟨r, 0, none⟩)))
        (first | (exact ⟨hcb, c1, q0, q1⟩) | go_keep)
        (first
          | (go_at_call 25; refine (hpk _).mono ?_; rintro e w2 ⟨rfl, h2⟩; obtain rfl := h2.symm))
      all_goals
        go_wp2_with fail
        go_meet
        case rel => exact ⟨w.heap.size + 1, rfl, by rw [← hWs]; exact hnw, by omega, hbf⟩
    case rest =>
      obtain ⟨x, rfl, hx, hxl, hbc⟩ := hcut
      have hatc := hat1.on hbc
      have hopc := block_on hop hbc
      have hpr := hatc.each j hjl
      have hold : ∀ w', Below wc.heap.size wc w' → ∃ bl', BoxesAt w0 w' wb (.slice (some ⟨g, 0, none⟩) bl.length cap) bl' ∧ bl'.length = bl.length := fun w' h => ⟨bl, hatc.on h, rfl⟩
      have hupd : ∀ w' B', Chg (bl.getD j PB.none).fp wc w' → PairAt w' B' → B'.p = (bl.getD j PB.none).p → B'.r = (bl.getD j PB.none).r → (∀ k, B'.fp k → (bl.getD j PB.none).fp k ∨ wc.heap.size ≤ k) → ∃ bl', BoxesAt w0 w' wb (.slice (some ⟨g, 0, none⟩) bl.length cap) bl' ∧ bl'.length = bl.length :=
        fun w' B' h1 h2 h3 h4 h5 => ⟨bl.set j B', hatc.update hjl h1 h2 h3 h4 h5, by simp⟩
      subst hpp hrr
      clear hat hat1 hop hcb hcb0 p0 p1 q0 q1 c0 c1 c2 c4 c5 c6 c7 c8 hpk hbc hatc
      generalize bl.getD j PB.none = B at *
      obtain ⟨hx0, hx1⟩ := two_cells hx
      obtain ⟨c0, c1, c2, c4, c5, c6, c7, c8⟩ := op_cells hopc
      have hsp := hpr.spec
      have hK := hsp.hK
      have hM := hsp.hM
      have hO := hsp.hO
      have hS := hsp.hS
      have hz := hsp.hz
      have hpl := hpr.box.lt
      have hHO := hide hold
      have hHU := hide hupd
      clear hold hupd c1 c4 c5 c6 c7 hsp
      rcases hk with rfl | rfl | rfl
      · have hxp : x ≠ B.p := by
          rintro rfl
          obtain ⟨cs, hcs, _⟩ := hpr.box
          rw [hx] at hcs
          simp at hcs
        have hopp : w.heap.size ≠ B.p := by
          intro e
          obtain ⟨cs, hcs, _⟩ := hpr.box
          rw [← e, hopc] at hcs
          simp at hcs
        by_cases hr : b < 0 ∨ (B.K : Int) + (B.M : Int) ≤ b
        · go_wp2_with fail
          refine (put_arg B.p B.K (B.K + B.M) B.z b s (ofs B.K B.M B.O B.S) B.kn _ (by rw [Int.natCast_add]; exact hr) hpr.box).mono ?_
          rintro e w1 ⟨rfl, hw1⟩
          obtain rfl := hw1.symm
          go_wp2_with fail
          refine (rput_arg B.r B.K B.M B.O B.S B.z b s B.av B.pv _ hK.2 hM.2 hr hpr.rbox.box).mono ?_
          rintro e w2 ⟨rfl, hb2⟩
          have hend := hHO.out w2 hb2
          clear hHO hHU hpr hopc hx hx0 hx1 c0 c2 c8 hb2
          go_wp2_with fail
          go_ret
          exact ⟨by first | rfl | simp, hend⟩
        · obtain ⟨i, rfl⟩ := Int.eq_ofNat_of_zero_le (show 0 ≤ b by omega)
          have hi : i < B.K + B.M := by omega
          by_cases ht : s.size = B.z
          · obtain ⟨u1, u2⟩ := hpr.rel.put (by omega) hi ht
            have hput := put_ok B.p B.K (B.K + B.M) B.z i s (ofs B.K B.M B.O B.S) B.kn
            have hpsl : B.ps.length ≤ 900 := by have := hpr.cnt; omega
            have hrt := fun W h1 h2 => rput_told B.r B.K B.M B.O B.S B.z i s B.av B.pv B.ps W hK hM hO hS (by omega) h1 hpsl hpr.rel.inn hi ht h2
            have hrn := fun W h1 h2 => rput_new B.r B.K B.M B.O B.S B.z i s B.av B.pv B.ps W hK hM hO hS (by omega) h1 hpsl hpr.rel.inn hi ht h2
            have hpush := fun h0 => hpr.rel.push hK.2 hi ht h0
            have hopk := fun h0 => openK_put hpr.rel.ok hK.2 ht (ofs_lt B.K B.M B.O B.S i) h0
            have hpk : (left B.kn (ofs B.K B.M B.O B.S i) s).1 = 0 → putK B.kn (ofs B.K B.M B.O B.S i) s = B.kn := fun h0 => by unfold putK; rw [if_pos h0]
            generalize told (boxFacts B.K B.M B.O B.S B.z B.ps) (2 ^ i) B.z = td at *
            generalize left B.kn (ofs B.K B.M B.O B.S i) s = L at *
            generalize putK B.kn (ofs B.K B.M B.O B.S i) s = kn2 at *
            go_wp2_with fail
            refine (hput _ hK.2 hpr.rel.ok (ofs_lt B.K B.M B.O B.S) (by omega) (by omega) hi ht hpr.box).mono ?_
            rintro e w1 ⟨rfl, hbox1, hcg⟩
            have hrb1 := hpr.rbox.chg hcg (fun k hk => hpr.parted hk)
            have hxlt : x < wc.heap.size := (Array.getElem?_eq_some_iff.1 hx).1
            have holt : w.heap.size < wc.heap.size := (Array.getElem?_eq_some_iff.1 hopc).1
            have hx' := (hcg.block x hxlt hxp).trans hx
            have hop' := (hcg.block _ holt hopp).trans hopc
            obtain ⟨y0, y1⟩ := two_cells hx'
            clear hx0 hx1 c0 c2 c8 hput
            obtain ⟨c0, c1, c2, c4, c5, c6, c7, c8⟩ := op_cells hop'
            clear c1 c4 c5 c6 c7
            have hcgf : Chg B.fp wc w1 := hcg.mono (fun k _ hk => Or.inl hk)
            cases htd : td.2
            · have h0 : L.1 ≠ 0 := fun h => by rw [u1.2 h] at htd; cases htd
              have hpe : putE L B.z = 0 := by unfold putE; rw [if_neg (fun h => h0 h.1)]
              rw [hpe]
              have hpsh := hpush h0
              have hok2 := hopk h0
              have HP := hide hpsh
              clear hpush hopk hpk u1 u2 hpe hrt hpsh
              go_wp2_with fail
              refine (hrn _ hrb1 htd).mono ?_
              rintro e w2 ⟨rfl, av', pv', hrb2, hcg2, hfp2⟩
              have hend := hHU.out w2 ⟨B.p, B.r, B.K, B.M, B.O, B.S, B.z, kn2, B.ps ++ [(i, s)], av', pv'⟩ (hcgf.trans hcg2 (fun k _ hk => Or.inr hk))
                ⟨hpr.spec, HP.out, by have := hpr.cnt; show (B.ps ++ [(i, s)]).length + openK kn2 B.K = B.K; rw [List.length_append]; simp; omega, hbox1.block (hcg2.block _ hbox1.lt (fun h => hpr.parted h rfl)), hrb2, fun h => by simp at h⟩ rfl rfl
                (fun k hk => by
                  rcases hk with hk | hk
                  · exact Or.inl (Or.inl hk)
                  · rcases hfp2 k hk with h | h
                    · exact Or.inl (Or.inr h)
                    · right; have := hcg.size; omega)
              clear hHO hHU hpr hopc hx hrn hrb1 hrb2 hop' hx' y0 y1 c0 c2 c8 hcg hcg2 hcgf hbox1 hfp2
              go_wp2_with fail
              go_ret
              exact ⟨by first | rfl | simp, hend⟩
            · have h0 : L.1 = 0 := u1.1 htd
              have hpe : putE L B.z = if td.1 = s then 0 else 4 := by
                unfold putE
                by_cases he : td.1 = s
                · rw [if_pos he, if_neg (fun h => h.2 ((u2 h0).2 he))]
                · rw [if_neg he, if_pos ⟨h0, fun h => he ((u2 h0).1 h)⟩]
              rw [hpe]
              rw [hpk h0] at hbox1
              clear hpush hopk hpk u1 u2 hpe hrn
              generalize (if td.1 = s then (0 : Int) else 4) = ee at *
              go_wp2_with fail
              refine (hrt _ hrb1 htd).mono ?_
              rintro e w2 ⟨rfl, hb2⟩
              have hend := hHU.out w2 B (hcgf.trans (Chg.of_below hb2 (fun _ => False)) (fun k _ hk => hk.elim))
                ⟨hpr.spec, hpr.rel, hpr.cnt, hbox1.on (Nat.le_refl _) hb2, hrb1.on (Nat.le_refl _) hb2, hpr.nil⟩ rfl rfl (fun k hk => Or.inl hk)
              clear hHO hHU hpr hopc hx hrt hrb1 hop' hx' y0 y1 c0 c2 c8 hcg hcgf hbox1 hb2
              go_wp2_with fail
              go_ret
              exact ⟨by first | rfl | simp, hend⟩
          · go_wp2_with fail
            refine (put_shape B.p B.K (B.K + B.M) B.z i s (ofs B.K B.M B.O B.S) B.kn _ hi ht hpr.box).mono ?_
            rintro e w1 ⟨rfl, hw1⟩
            obtain rfl := hw1.symm
            go_wp2_with fail
            refine (rput_shape B.r B.K B.M B.O B.S B.z i s B.av B.pv _ hK.2 hM.2 hi ht hpr.rbox.box).mono ?_
            rintro e w2 ⟨rfl, hb2⟩
            have hend := hHO.out w2 hb2
            clear hHO hHU hpr hopc hx hx0 hx1 c0 c2 c8 hb2
            go_wp2_with fail
            go_ret
            exact ⟨by first | rfl | simp, hend⟩
      · by_cases hr : b < 0 ∨ (B.K : Int) + (B.M : Int) ≤ b
        · go_wp2_with fail
          refine (get_arg B.p B.K (B.K + B.M) B.z b (ofs B.K B.M B.O B.S) B.kn _ (by rw [Int.natCast_add]; exact hr) hpr.box).mono ?_
          rintro e w1 ⟨rfl, hw1⟩
          obtain rfl := hw1.symm
          obtain ⟨r0, r1, r2, r3, r4, r5, r6, hrl⟩ := rbox_cells hpr.rbox.box
          have hbd : ∀ n, Below wc.heap.size wc (wc.drewN n) := fun n => ((Chg.refl (fun _ => False) wc).drewN n).below (fun _ _ x => x)
          clear r2 r3 r4 r5 r6
          by_cases hb0 : b < 0
          · have hd : decide (b < 0) = true := decide_eq_true hb0
            go_wp2_with fail
            go_quiet (fail)
            all_goals
              have hend := hHO.out _ (hbd nq)
              clear hHO hHU hpr hopc hx
              go_wp2_with fail
              go_ret
              exact ⟨by first | rfl | simp, hend⟩
          · have hd : decide (b < 0) = false := decide_eq_false hb0
            have hd2 : (B.K : Int) + (B.M : Int) ≤ b := by omega
            go_wp2_with fail
            go_quiet (fail)
            all_goals
              have hend := hHO.out _ (hbd nq)
              clear hHO hHU hpr hopc hx
              go_wp2_with fail
              go_ret
              exact ⟨by first | rfl | simp, hend⟩
        · obtain ⟨i, rfl⟩ := Int.eq_ofNat_of_zero_le (show 0 ≤ b by omega)
          have hi : i < B.K + B.M := by omega
          obtain ⟨g1, g2⟩ := hpr.rel.get (by omega) hi
          have hget := get_ok B.p B.K (B.K + B.M) B.z i (ofs B.K B.M B.O B.S) B.kn
          have hrg := fun W hb hA hP => rget_any B.r B.K B.M B.O B.S B.z i B.av B.pv B.ps W hK hM hO hS (by omega) hb hA hP (by have := hpr.cnt; omega) hpr.rel.inn (by omega)
          generalize told (boxFacts B.K B.M B.O B.S B.z B.ps) (2 ^ i) B.z = td at *
          generalize left B.kn (ofs B.K B.M B.O B.S i) (zeroB B.z) = L at *
          go_wp2_with fail
          refine (hget _ hK.2 hpr.rel.ok (ofs_lt B.K B.M B.O B.S) (by omega) (by omega) hi hpr.box).mono ?_
          rintro e w1 ⟨rfl, hb1⟩
          have hrb1 := hpr.rbox.on (Nat.le_refl _) hb1
          have hx' := block_on hx hb1
          have hop' := block_on hopc hb1
          obtain ⟨r0, r1, r2, r3, r4, r5, r6, hrl⟩ := rbox_cells hrb1.box
          obtain ⟨y0, y1⟩ := two_cells hx'
          clear hx0 hx1 c0 c2 c8 r2 r3 r4 r5 r6 hget
          obtain ⟨c0, c1, c2, c4, c5, c6, c7, c8⟩ := op_cells hop'
          have hbd : ∀ n, Below w1.heap.size w1 (w1.drewN n) := fun n => ((Chg.refl (fun _ => False) w1).drewN n).below (fun _ _ x => x)
          have hd : decide ((i : Int) < 0) = false := decide_eq_false (by omega)
          have hd2 : ¬ (B.K : Int) + (B.M : Int) ≤ (i : Int) := by omega
          clear c1 c4 c5 c6 c7
          by_cases h0 : L.1 = 0
          · rw [if_pos h0, g2 h0]
            have htd := g1.2 h0
            rw [htd] at hrg
            clear g1 g2 h0 htd
            generalize td.1 = tt at *
            go_wp2_with fail
            go_quiet (fail)
            all_goals
              have hb2 := hbd nq
              have hrb2 := hrb1.on (Nat.le_refl _) hb2
              go_wp2_with fail
              refine (hrg _ hrb2.box hrb2.nums hrb2.texts).mono ?_
              rintro e w3 ⟨rfl, hb3⟩
              have hend := hHO.out w3 (hb1.trans ((hb2.trans (hb3.mono hb2.size)).mono hb1.size))
              clear hHO hHU hpr hopc hx hrg hb1 hb2 hb3 hrb1 hrb2 hop' hx' y0 y1 c0 c2 c8 r0 r1
              go_wp2_with fail
              go_ret
              exact ⟨by first | rfl | simp, hend⟩
          · rw [if_neg h0]
            have htd : td.2 = false := by
              cases h : td.2
              · rfl
              · exact absurd (g1.1 h) h0
            rw [htd] at hrg
            clear g1 g2 h0 htd
            generalize td.1 = tt at *
            go_wp2_with fail
            go_quiet (fail)
            all_goals
              have hb2 := hbd nq
              have hrb2 := hrb1.on (Nat.le_refl _) hb2
              go_wp2_with fail
              refine (hrg _ hrb2.box hrb2.nums hrb2.texts).mono ?_
              rintro e w3 ⟨rfl, hb3⟩
              have hend := hHO.out w3 (hb1.trans ((hb2.trans (hb3.mono hb2.size)).mono hb1.size))
              clear hHO hHU hpr hopc hx hrg hb1 hb2 hb3 hrb1 hrb2 hop' hx' y0 y1 c0 c2 c8 r0 r1
              go_wp2_with fail
              go_ret
              exact ⟨by first | rfl | simp, hend⟩
      · go_wp2_with fail
        refine (need_any B.p B.K (B.K + B.M) B.z (ofs B.K B.M B.O B.S) B.kn _ hK.2 hpr.box).mono ?_
        rintro e w1 ⟨rfl, hw1⟩
        obtain rfl := hw1.symm
        go_wp2_with fail
        refine (rneed_any B.r B.K B.M B.O B.S B.z B.av B.pv B.ps _ hK hM hO hS (by omega) hpr.rbox (by have := hpr.cnt; omega) hpr.rel.inn hpr.nil).mono ?_
        rintro e w2 ⟨rfl, hb2⟩
        rw [hpr.rel.need hK.2 (by omega)]
        have hend := hHO.out w2 hb2
        clear hHO hHU hpr hopc hx hx0 hx1 c0 c2 c8 hb2
        go_wp2_with fail
        go_ret
        exact ⟨by first | rfl | simp, hend⟩

end Go.Proofs.YtnjaofkieajnlaaGreat
