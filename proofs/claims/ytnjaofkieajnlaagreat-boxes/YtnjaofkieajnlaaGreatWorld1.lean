/- The statement's own world of boxes: pairs of a program's box and a document's, side by side; 'made', where no box is made. -/
import Derived.Test.YtnjaofkieajnlaaGreatRBox6
import Derived.Test.YtnjaofkieajnlaaGreatRowed
import Derived.Test.YtnjaofkieajnlaaGreatOpsW
namespace Go.Proofs.YtnjaofkieajnlaaGreat
open Go.RowKit

/-- A pair of boxes. -/
structure PB where
  p : Nat
  r : Nat
  K : Nat
  M : Nat
  O : Nat
  S : Nat
  z : Nat
  kn : Kn
  ps : List (Nat × ByteArray)
  av : Value
  pv : Value

def PB.none : PB := ⟨0, 0, 0, 0, 0, 0, 0, kn0, [], .slice .none 0 0, .slice .none 0 0⟩

/-- The blocks of a pair. -/
def PB.fp (b : PB) (k : Nat) : Prop := k = b.p ∨ fpR b.r b.av b.pv k

structure PairAt (w : World) (b : PB) : Prop where
  spec : SpecOk b.K b.M b.O b.S b.z
  rel : Rel b.K b.M b.O b.S b.z b.kn b.ps
  cnt : b.ps.length + openK b.kn b.K = b.K
  box : BoxAt w b.p b.K (b.K + b.M) b.z (ofs b.K b.M b.O b.S) b.kn
  rbox : RBoxAt w b.r b.K b.M b.O b.S b.z b.av b.pv b.ps
  nil : b.ps.length = 0 → b.av = .slice none 0 0 ∧ b.pv = .slice none 0 0

theorem PairAt.lt {w : World} {b : PB} (h : PairAt w b) {k : Nat} (hk : b.fp k) : k < w.heap.size := by
  rcases hk with rfl | hk
  · exact h.box.lt
  · exact h.rbox.fp_lt hk

theorem PairAt.blocks {w w' : World} {b : PB} (h : PairAt w b) (hb : ∀ k, b.fp k → w'.heap[k]? = w.heap[k]?) : PairAt w' b :=
  ⟨h.spec, h.rel, h.cnt, h.box.block (hb _ (Or.inl rfl)), h.rbox.blocks (fun k hk => hb k (Or.inr hk)), h.nil⟩

/-- The blocks of a pair are of four types. -/
theorem PairAt.types {w : World} {b : PB} (h : PairAt w b) {k : Nat} (hk : b.fp k) : ∃ cs t, w.heap[k]? = some (.cells cs t (0, 0)) ∧ (t = 110 ∨ t = 70 ∨ t = 3 ∨ t = 9) := by
  rcases hk with rfl | rfl | hk | hk
  · obtain ⟨c, hc, _⟩ := h.box
    exact ⟨c, _, hc, Or.inl rfl⟩
  · exact ⟨_, _, h.rbox.box, Or.inr (Or.inl rfl)⟩
  · obtain ⟨c, hc⟩ := owns_block h.rbox.oa hk
    exact ⟨c, _, hc, Or.inr (Or.inr (Or.inl rfl))⟩
  · obtain ⟨c, hc⟩ := owns_block h.rbox.op hk
    exact ⟨c, _, hc, Or.inr (Or.inr (Or.inr rfl))⟩

/-- Pairs as values: two pointers each. -/
def pairV : List PB → List Value
  | [] => []
  | b :: l => .pointer (some ⟨b.p, 0, none⟩) :: .pointer (some ⟨b.r, 0, none⟩) :: pairV l

theorem pairV_append (a b : List PB) : pairV (a ++ b) = pairV a ++ pairV b := by
  induction a with
  | nil => rfl
  | cons f a ih => simp [pairV, ih]

theorem pairV_length (l : List PB) : (pairV l).length = l.length * 2 := by
  induction l with
  | nil => rfl
  | cons f l ih => simp [pairV, ih]; omega

theorem pairV_get (l : List PB) (k : Nat) (h : k < l.length) : (pairV l)[k * 2]? = some (.pointer (some ⟨(l.getD k PB.none).p, 0, none⟩)) ∧ (pairV l)[k * 2 + 1]? = some (.pointer (some ⟨(l.getD k PB.none).r, 0, none⟩)) := by
  induction l generalizing k with
  | nil => simp at h
  | cons f l ih =>
    cases k with
    | zero => exact ⟨rfl, rfl⟩
    | succ k =>
      have := ih k (by simpa using h)
      rw [show (k + 1) * 2 = k * 2 + 1 + 1 from by omega]
      exact this

theorem pairV_set (l : List PB) (i : Nat) (b : PB) (hp : b.p = (l.getD i PB.none).p) (hr : b.r = (l.getD i PB.none).r) : pairV (l.set i b) = pairV l := by
  induction l generalizing i with
  | nil => rfl
  | cons f l ih =>
    cases i with
    | zero =>
      have hp' : b.p = f.p := hp
      have hr' : b.r = f.r := hr
      simp [pairV, hp', hr']
    | succ i => simp only [List.set_cons_succ, pairV]; rw [ih i hp hr]

theorem getD_set (l : List PB) (i j : Nat) (b : PB) (hi : i < l.length) : (l.set i b).getD j PB.none = if j = i then b else l.getD j PB.none := by
  rw [List.getD_eq_getElem?_getD, List.getD_eq_getElem?_getD]
  by_cases e : j = i
  · subst e; rw [if_pos rfl, List.getElem?_set_self hi]; rfl
  · rw [if_neg e, List.getElem?_set_ne (fun h => e h.symm)]

theorem getD_snoc (l : List PB) (b : PB) (j : Nat) : (l ++ [b]).getD j PB.none = if j < l.length then l.getD j PB.none else if j = l.length then b else PB.none := by
  rw [List.getD_eq_getElem?_getD, List.getD_eq_getElem?_getD]
  by_cases h : j < l.length
  · rw [if_pos h, List.getElem?_append_left h]
  · rw [if_neg h, List.getElem?_append_right (by omega)]
    by_cases e : j = l.length
    · rw [if_pos e, e, Nat.sub_self]; rfl
    · rw [if_neg e, List.getElem?_eq_none (by simp; omega)]; rfl

/-- All of it, in worlds that only new blocks part from w0. -/
structure BoxesAt (w0 w : World) (wb : Nat) (bsv : Value) (bl : List PB) : Prop where
  world : w.heap[wb]? = some (worldB bsv)
  own : w.ownsRow 0 72 2 bsv bl.length (pairV bl)
  each : ∀ i, i < bl.length → PairAt w (bl.getD i PB.none)
  apart : ∀ i j, i < bl.length → j < bl.length → i ≠ j → ∀ k, (bl.getD i PB.none).fp k → ¬ (bl.getD j PB.none).fp k
  newW : w0.heap.size ≤ wb
  newB : ∀ k, bsv.ownBlock = some k → w0.heap.size ≤ k
  newP : ∀ i, i < bl.length → ∀ k, (bl.getD i PB.none).fp k → w0.heap.size ≤ k
  below : Below w0.heap.size w0 w

namespace BoxesAt
variable {w0 w w' : World} {wb : Nat} {bsv : Value} {bl : List PB}

theorem lt (h : BoxesAt w0 w wb bsv bl) : wb < w.heap.size := (Array.getElem?_eq_some_iff.1 h.world).1

/-- No pair has the world's block, nor the list's. -/
theorem not_world (h : BoxesAt w0 w wb bsv bl) {i : Nat} (hi : i < bl.length) : ¬ (bl.getD i PB.none).fp wb := fun hk => by
  obtain ⟨cs, t, hc, ht⟩ := (h.each i hi).types hk
  rw [h.world] at hc
  simp at hc
  obtain ⟨_, rfl⟩ := hc
  rcases ht with ht | ht | ht | ht <;> exact absurd ht (by decide)

theorem not_list (h : BoxesAt w0 w wb bsv bl) {i : Nat} (hi : i < bl.length) {k : Nat} (hk : bsv.ownBlock = some k) : ¬ (bl.getD i PB.none).fp k := fun hf => by
  obtain ⟨cs, t, hc, ht⟩ := (h.each i hi).types hf
  obtain ⟨cur, hcur⟩ := owns_block h.own hk
  rw [hcur] at hc
  simp at hc
  obtain ⟨_, rfl⟩ := hc
  rcases ht with ht | ht | ht | ht <;> exact absurd ht (by decide)

theorem on (h : BoxesAt w0 w wb bsv bl) (hb : Below w.heap.size w w') : BoxesAt w0 w' wb bsv bl :=
  ⟨by rw [hb.block _ h.lt]; exact h.world, owns_of_block h.own (fun k hk => hb.block k (h.own.lt k hk).2), fun i hi => (h.each i hi).blocks (fun k hk => hb.block k ((h.each i hi).lt hk)), h.apart, h.newW, h.newB, h.newP, h.below.trans (hb.mono h.below.size)⟩

/-- One pair has turned. -/
theorem update (h : BoxesAt w0 w wb bsv bl) {i : Nat} (hi : i < bl.length) {b : PB} (hc : Chg (bl.getD i PB.none).fp w w') (hp : PairAt w' b) (e1 : b.p = (bl.getD i PB.none).p) (e2 : b.r = (bl.getD i PB.none).r) (hn : ∀ k, b.fp k → (bl.getD i PB.none).fp k ∨ w.heap.size ≤ k) : BoxesAt w0 w' wb bsv (bl.set i b) := by
  have hs := h.below.size
  refine ⟨?_, ?_, ?_, ?_, h.newW, h.newB, ?_, ?_⟩
  · rw [hc.block wb h.lt (h.not_world hi)]; exact h.world
  · rw [List.length_set, pairV_set bl i b e1 e2]
    exact owns_of_block h.own (fun k hk => hc.block k (h.own.lt k hk).2 (h.not_list hi hk))
  · intro j hj
    rw [List.length_set] at hj
    rw [getD_set bl i j b hi]
    by_cases e : j = i
    · rw [if_pos e]; exact hp
    · rw [if_neg e]
      exact (h.each j hj).blocks (fun k hk => hc.block k ((h.each j hj).lt hk) (h.apart j i hj hi e k hk))
  · intro a c ha hcc hne k hk
    rw [List.length_set] at ha hcc
    rw [getD_set bl i a b hi] at hk
    rw [getD_set bl i c b hi]
    by_cases ea : a = i
    · rw [if_pos ea] at hk
      have ec : c ≠ i := fun e => hne (ea.trans e.symm)
      rw [if_neg ec]
      rcases hn k hk with h1 | h1
      · exact h.apart i c hi hcc (fun e => ec e.symm) k h1
      · intro h2
        have := (h.each c hcc).lt h2
        omega
    · rw [if_neg ea] at hk
      by_cases ec : c = i
      · rw [if_pos ec]
        intro h2
        rcases hn k h2 with h1 | h1
        · exact h.apart a i ha hi ea k hk h1
        · have := (h.each a ha).lt hk
          omega
      · rw [if_neg ec]; exact h.apart a c ha hcc hne k hk
  · intro j hj k hk
    rw [List.length_set] at hj
    rw [getD_set bl i j b hi] at hk
    by_cases e : j = i
    · rw [if_pos e] at hk
      rcases hn k hk with h1 | h1
      · exact h.newP i hi k h1
      · omega
    · rw [if_neg e] at hk; exact h.newP j hj k hk
  · exact below_chg h.below hc (fun k hk => h.newP i hi k hk)

end BoxesAt

end Go.Proofs.YtnjaofkieajnlaaGreat

namespace Go.Proofs.YtnjaofkieajnlaaGreat
open Go.RowKit

set_option maxRecDepth 100000 in
set_option maxHeartbeats 8000000 in
theorem made_bad (w0 : World) (wb : Nat) (bsv : Value) (bl : List PB) (k a b c K M O S : Int) (s : ByteArray) (lv : Value) (w : World) (hat : BoxesAt w0 w wb bsv bl) (hm : mayB K M O S = false) :
    Calls Tryz.prog 11 #[.pointer (some ⟨wb, 0, none⟩), .agg (opC k a b c K M O S s lv)] w fun e w' => e = .returned (.bool true) ∧ BoxesAt w0 w' wb bsv bl := by
  have hnew := fun W => new_bad K M O S a W hm
  have hma := fun W => may_below K M O S W
  have hmay : mayB K M O S = false := hm
  rw [hmay] at hma
  have hat1 := hat.on ((Below.refl _ _).alloc (Nat.le_refl _) (.cells (opC k a b c K M O S s lv) 29))
  have hop : (w.alloc (.cells (opC k a b c K M O S s lv) 29)).heap[w.heap.size]? = some (.cells (opC k a b c K M O S s lv) 29 (0, 0)) := heap_alloc_new w _
  go_enter Tryz.func11, Tryz.ntmps11
  go_wp2_with fail
  refine (hnew _).mono ?_
  rintro e w1 ⟨rfl, hb1⟩
  have hat2 := hat1.on hb1
  have hop1 := block_on hop hb1
  obtain ⟨c0, c1, c2, c4, c5, c6, c7, c8⟩ := op_cells hop1
  clear hat1 hop hat hb1 hnew
  go_wp2_with fail
  refine (hma _).mono ?_
  rintro e w2 ⟨rfl, hb2⟩
  have hat3 := hat2.on hb2
  have hop2 := block_on hop1 hb2
  clear c0 c1 c2 c4 c5 c6 c7 c8 hat2 hop1 hb2 hma
  obtain ⟨c0, c1, c2, c4, c5, c6, c7, c8⟩ := op_cells hop2
  go_wp2_with fail
  go_ret
  exact ⟨rfl, hat3⟩

set_option maxRecDepth 100000 in
set_option maxHeartbeats 8000000 in
theorem made_arg (w0 : World) (wb : Nat) (bsv : Value) (bl : List PB) (k a b c : Int) (K M O S : Nat) (s : ByteArray) (lv : Value) (w : World) (hat : BoxesAt w0 w wb bsv bl) (hK : 1 ≤ K ∧ K ≤ 20) (hM : 1 ≤ M ∧ M ≤ 20) (hO : 1 ≤ O ∧ O ≤ M) (hS : S ≤ 65535) (hz : a < 1 ∨ 16 < a) :
    Calls Tryz.prog 11 #[.pointer (some ⟨wb, 0, none⟩), .agg (opC k a b c K M O S s lv)] w fun e w' => e = .returned (.bool true) ∧ BoxesAt w0 w' wb bsv bl := by
  have hnew := fun W => new_arg K M O S a W hK hM hO hS hz
  have hma := fun W => may_below K M O S W
  have hmay : mayB K M O S = true := by simp [mayB]; omega
  rw [hmay] at hma
  have hat1 := hat.on ((Below.refl _ _).alloc (Nat.le_refl _) (.cells (opC k a b c K M O S s lv) 29))
  have hop : (w.alloc (.cells (opC k a b c K M O S s lv) 29)).heap[w.heap.size]? = some (.cells (opC k a b c K M O S s lv) 29 (0, 0)) := heap_alloc_new w _
  go_enter Tryz.func11, Tryz.ntmps11
  go_wp2_with fail
  refine (hnew _).mono ?_
  rintro e w1 ⟨rfl, hb1⟩
  have hat2 := hat1.on hb1
  have hop1 := block_on hop hb1
  obtain ⟨c0, c1, c2, c4, c5, c6, c7, c8⟩ := op_cells hop1
  clear hat1 hop hat hb1 hnew
  go_wp2_with fail
  refine (hma _).mono ?_
  rintro e w2 ⟨rfl, hb2⟩
  have hat3 := hat2.on hb2
  have hop2 := block_on hop1 hb2
  clear c0 c1 c2 c4 c5 c6 c7 c8 hat2 hop1 hb2 hma
  obtain ⟨c0, c1, c2, c4, c5, c6, c7, c8⟩ := op_cells hop2
  by_cases ha : a < 1
  · have hd : decide (a < 1) = true := decide_eq_true ha
    go_wp2_with fail
    go_ret
    exact ⟨rfl, hat3⟩
  · have hd : decide (a < 1) = false := decide_eq_false ha
    have hd2 : (16 : Int) < a := by omega
    go_wp2_with fail
    go_ret
    exact ⟨rfl, hat3⟩

theorem pair_not {w : World} {b : PB} (h : PairAt w b) {k : Nat} {cs : Array Value} {t : TypeId} (hb : w.heap[k]? = some (.cells cs t (0, 0))) (h1 : t ≠ 110) (h2 : t ≠ 70) (h3 : t ≠ 3) (h4 : t ≠ 9) : ¬ b.fp k := fun hk => by
  obtain ⟨cs', t', hc, ht⟩ := h.types hk
  rw [hb] at hc
  simp at hc
  obtain ⟨_, rfl⟩ := hc
  rcases ht with ht | ht | ht | ht
  · exact h1 ht
  · exact h2 ht
  · exact h3 ht
  · exact h4 ht

/-- One pair more. -/
theorem BoxesAt.snoc {w0 w w3 : World} {wb : Nat} {bsv : Value} {bl : List PB} (h : BoxesAt w0 w wb bsv bl) {b : PB} {g cap n : Nat} (hp : PairAt w b) (hd : ∀ i, i < bl.length → ∀ k, (bl.getD i PB.none).fp k → ¬ b.fp k) (hn : ∀ k, b.fp k → w0.heap.size ≤ k)
    (hg : w.grownBy w3 bsv.ownBlock) (hown : w3.ownsRow 0 72 2 (.slice (some ⟨g, 0, none⟩) n cap) n (pairV (bl ++ [b]))) (hl : n = bl.length + 1) (hat : bsv.ownBlock = some g ∨ w.heap.size ≤ g) :
    BoxesAt w0 (w3.setCell ⟨wb, 6, none⟩ (.slice (some ⟨g, 0, none⟩) n cap)) wb (.slice (some ⟨g, 0, none⟩) n cap) (bl ++ [b]) := by
  subst hl
  have hwl : bsv.ownBlock ≠ some wb := owns_other h.own h.world (by decide)
  have hw3 : w3.heap[wb]? = some (worldB bsv) := by rw [hg.block wb h.lt (fun e => hwl e.symm)]; exact h.world
  have hgw : (.slice (some ⟨g, 0, none⟩) (bl.length + 1) cap : Value).ownBlock ≠ some wb := owns_other hown hw3 (by decide)
  have hkeep : ∀ k, k < w.heap.size → bsv.ownBlock ≠ some k → k ≠ wb → (w3.setCell ⟨wb, 6, none⟩ (.slice (some ⟨g, 0, none⟩) (bl.length + 1) cap)).heap[k]? = w.heap[k]? := fun k hk h1 h2 => by
    rw [heap_setCell_other _ _ _ _ h2]
    exact hg.block k hk (fun e => h1 e.symm)
  have hb1 : ¬ b.fp wb := pair_not hp h.world (by decide) (by decide) (by decide) (by decide)
  have hb2 : ∀ k, bsv.ownBlock = some k → ¬ b.fp k := fun k hk => by
    obtain ⟨cur, hcur⟩ := owns_block h.own hk
    exact pair_not hp hcur (by decide) (by decide) (by decide) (by decide)
  have hs := h.below.size
  have hgn : w0.heap.size ≤ g := by
    rcases hat with e | e
    · exact h.newB g e
    · omega
  refine ⟨?_, ?_, ?_, ?_, h.newW, ?_, ?_, ?_⟩
  · rw [heap_setCell_same _ _ _ _ _ _ hw3]; rfl
  · rw [List.length_append]
    exact owns_of_block hown (fun k hk => heap_setCell_other _ _ _ _ (by rintro rfl; exact hgw hk))
  · intro i hi
    rw [List.length_append] at hi
    rw [getD_snoc]
    by_cases e : i < bl.length
    · rw [if_pos e]
      exact (h.each i e).blocks (fun k hk => hkeep k ((h.each i e).lt hk) (fun x => h.not_list e x hk) (fun x => h.not_world e (x ▸ hk)))
    · rw [if_neg e, if_pos (by simp at hi; omega)]
      exact hp.blocks (fun k hk => hkeep k (hp.lt hk) (fun x => hb2 k x hk) (fun x => hb1 (x ▸ hk)))
  · intro i j hi hj hne k hk
    rw [List.length_append] at hi hj
    rw [getD_snoc] at hk ⊢
    simp at hi hj
    by_cases ei : i < bl.length
    · rw [if_pos ei] at hk
      by_cases ej : j < bl.length
      · rw [if_pos ej]; exact h.apart i j ei ej hne k hk
      · rw [if_neg ej, if_pos (by omega)]; exact hd i ei k hk
    · rw [if_neg ei, if_pos (by omega)] at hk
      have ej : j < bl.length := by omega
      rw [if_pos ej]
      exact fun h2 => hd j ej k h2 hk
  · intro k hk
    have : g = k := by simpa [Value.ownBlock] using hk
    omega
  · intro i hi k hk
    rw [List.length_append] at hi
    simp at hi
    rw [getD_snoc] at hk
    by_cases ei : i < bl.length
    · rw [if_pos ei] at hk; exact h.newP i ei k hk
    · rw [if_neg ei, if_pos (by omega)] at hk; exact hn k hk
  · refine (h.below.grown hg hs (fun k e => h.newB k e)).setCell h.newW _

theorem Tryz.infoPair : (Tryz.prog.info? 72).map (fun i => (i.zero, i.size, i.bytes)) = some (some (.agg #[.pointer none, .pointer none]), 2, 16) := by kernel_rfl

end Go.Proofs.YtnjaofkieajnlaaGreat
