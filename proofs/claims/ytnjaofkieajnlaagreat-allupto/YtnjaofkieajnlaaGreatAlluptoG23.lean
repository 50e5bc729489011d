/- Texts of the proof, part 24. -/
import Derived.Test.YtnjaofkieajnlaaGreatAlluptoG22

/- The lists of the statement's world: what holds of them, and what marking and keeping one leaves. -/
namespace Go.Proofs.YtnjaofkieajnlaaGreat
open Go.RowKit

/-- What the world has of lists. -/
structure LS where
  came : Nat
  kL : List ByteArray
  M : Nat
  rv : Nat → Value
  rv2 : Nat → Value
  RL : Nat → List Nat
  tv : List Value
  gv : List Value
  iv : List Value
  lv : List Value
  ls : List Value

/-- A list of texts that is marked, and grown. -/
def MarkedT (w : World) (m : ByteArray) (a b1 b2 b3 : Value) : Prop := ∃ n, n ≤ 1000 ∧ RowFull w 9 a n (.string m) ∧ RowFull w 9 b1 (n + 1) (.string m) ∧ RowFull w 9 b2 (n + 2) (.string m) ∧ RowFull w 9 b3 (n + 3) (.string m)

def MarkedN (w : World) (m : Int) (a b1 b2 b3 : Value) : Prop := ∃ n, n ≤ 1000 ∧ RowFull w 3 a n (.int .i64 m) ∧ RowFull w 3 b1 (n + 1) (.int .i64 m) ∧ RowFull w 3 b2 (n + 2) (.int .i64 m) ∧ RowFull w 3 b3 (n + 3) (.int .i64 m)

/-- All blocks of these values have a colour. -/
def Col (col : Nat → Nat) (c : Nat) (v : Value) : Prop := ∀ k, v.ownBlock = some k → col k = c

structure ListsAt (w : World) (f : Nat → Value) (col : Nat → Nat) (N : Nat) (s : LS) : Prop where
  came : f 0 = .int .i64 (s.came : Int)
  bad : f 1 = .bool false
  kt : w.ownsRow 0 9 1 (f 2) s.kL.length (textV s.kL)
  wt : w.ownsRow 0 9 1 (f 3) s.kL.length (textV s.kL)
  kr : RowsOwn w (f 4) s.M s.rv s.RL
  wr : RowsOwn w (f 5) s.M s.rv2 s.RL
  t : w.ownsRow 0 27 1 (f 9) s.tv.length s.tv
  g : w.ownsRow 0 27 1 (f 10) s.gv.length s.gv
  i : w.ownsRow 0 63 1 (f 11) s.iv.length s.iv
  l : w.ownsRow 0 63 1 (f 12) s.lv.length s.lv
  ls : w.ownsRow 0 32 1 (f 13) s.ls.length s.ls
  gl : s.gv.length = 3 * s.tv.length
  ll : s.lv.length = 3 * s.iv.length
  mt : ∀ k, k < s.tv.length → MarkedT w (stroke k) (s.tv.getD k nilV) (s.gv.getD (3 * k) nilV) (s.gv.getD (3 * k + 1) nilV) (s.gv.getD (3 * k + 2) nilV)
  mi : ∀ k, k < s.iv.length → MarkedN w (-1 - (k : Int)) (s.iv.getD k nilV) (s.lv.getD (3 * k) nilV) (s.lv.getD (3 * k + 1) nilV) (s.lv.getD (3 * k + 2) nilV)
  ml : ∀ k, k < s.ls.length → ∃ n, n ≤ 20 ∧ RowFull w 63 (s.ls.getD k nilV) n nilV
  c2 : Col col 9 (f 2)
  c3 : Col col 12 (f 3)
  c4 : ∀ k, fpRows (f 4) s.M s.rv k → col k = 10
  c5 : ∀ k, fpRows (f 5) s.M s.rv2 k → col k = 12
  c9 : Col col 4 (f 9)
  c10 : Col col 5 (f 10)
  c11 : Col col 6 (f 11)
  c12 : Col col 7 (f 12)
  c13 : Col col 8 (f 13)
  ct : ∀ k, Col col 11 (s.tv.getD k nilV)
  cg : ∀ k, Col col 11 (s.gv.getD k nilV)
  ci : ∀ k, Col col 11 (s.iv.getD k nilV)
  cl : ∀ k, Col col 11 (s.lv.getD k nilV)
  cs : ∀ k, Col col 11 (s.ls.getD k nilV)
  kb : s.kL.length ≤ 1000
  Mb : s.M ≤ 20
  Lb : ∀ i, i < s.M → 1 ≤ (s.RL i).length ∧ (s.RL i).length ≤ 1000
  tb : s.tv.length ≤ N
  ib : s.iv.length ≤ 20 * N
  lb : s.ls.length ≤ N
  cb : s.came ≤ N

theorem MarkedT.keep {w w' : World} {m : ByteArray} {a b1 b2 b3 : Value} (h : MarkedT w m a b1 b2 b3) (hb : ∀ k, (a.ownBlock = some k ∨ b1.ownBlock = some k ∨ b2.ownBlock = some k ∨ b3.ownBlock = some k) → w'.heap[k]? = w.heap[k]?) : MarkedT w' m a b1 b2 b3 := by
  obtain ⟨n, hn, h0, h1, h2, h3⟩ := h
  exact ⟨n, hn, h0.blocks (fun k hk => hb k (Or.inl hk)), h1.blocks (fun k hk => hb k (Or.inr (Or.inl hk))), h2.blocks (fun k hk => hb k (Or.inr (Or.inr (Or.inl hk)))), h3.blocks (fun k hk => hb k (Or.inr (Or.inr (Or.inr hk))))⟩

theorem MarkedN.keep {w w' : World} {m : Int} {a b1 b2 b3 : Value} (h : MarkedN w m a b1 b2 b3) (hb : ∀ k, (a.ownBlock = some k ∨ b1.ownBlock = some k ∨ b2.ownBlock = some k ∨ b3.ownBlock = some k) → w'.heap[k]? = w.heap[k]?) : MarkedN w' m a b1 b2 b3 := by
  obtain ⟨n, hn, h0, h1, h2, h3⟩ := h
  exact ⟨n, hn, h0.blocks (fun k hk => hb k (Or.inl hk)), h1.blocks (fun k hk => hb k (Or.inr (Or.inl hk))), h2.blocks (fun k hk => hb k (Or.inr (Or.inr (Or.inl hk)))), h3.blocks (fun k hk => hb k (Or.inr (Or.inr (Or.inr hk))))⟩

theorem MarkedT.lt {w : World} {m : ByteArray} {a b1 b2 b3 : Value} (h : MarkedT w m a b1 b2 b3) {k : Nat} (hk : a.ownBlock = some k ∨ b1.ownBlock = some k ∨ b2.ownBlock = some k ∨ b3.ownBlock = some k) : k < w.heap.size := by
  obtain ⟨n, hn, h0, h1, h2, h3⟩ := h
  rcases hk with hk | hk | hk | hk
  · exact h0.lt hk
  · exact h1.lt hk
  · exact h2.lt hk
  · exact h3.lt hk

theorem MarkedN.lt {w : World} {m : Int} {a b1 b2 b3 : Value} (h : MarkedN w m a b1 b2 b3) {k : Nat} (hk : a.ownBlock = some k ∨ b1.ownBlock = some k ∨ b2.ownBlock = some k ∨ b3.ownBlock = some k) : k < w.heap.size := by
  obtain ⟨n, hn, h0, h1, h2, h3⟩ := h
  rcases hk with hk | hk | hk | hk
  · exact h0.lt hk
  · exact h1.lt hk
  · exact h2.lt hk
  · exact h3.lt hk

theorem getD_out {l : List Value} {k : Nat} (h : l.length ≤ k) : l.getD k nilV = nilV := by
  rw [List.getD_eq_getElem?_getD, List.getElem?_eq_none h]; rfl

theorem nilV_own (k : Nat) : nilV.ownBlock ≠ some k := by simp [Value.ownBlock]

namespace ListsAt
variable {w w' : World} {f f' : Nat → Value} {col col' : Nat → Nat} {N : Nat} {s : LS}

theorem marked_lt (h : ListsAt w f col N s) {k : Nat} {x : Value} (hx : (∃ j, x = s.tv.getD j nilV) ∨ (∃ j, x = s.gv.getD j nilV) ∨ (∃ j, x = s.iv.getD j nilV) ∨ (∃ j, x = s.lv.getD j nilV) ∨ (∃ j, x = s.ls.getD j nilV)) (hk : x.ownBlock = some k) : k < w.heap.size := by
  rcases hx with ⟨j, rfl⟩ | ⟨j, rfl⟩ | ⟨j, rfl⟩ | ⟨j, rfl⟩ | ⟨j, rfl⟩
  · by_cases hj : j < s.tv.length
    · exact (h.mt j hj).lt (Or.inl hk)
    · rw [getD_out (by omega)] at hk; exact absurd hk (nilV_own k)
  · by_cases hj : j < s.gv.length
    · have hgl := h.gl
      have := h.mt (j / 3) (by omega)
      have hm : j = 3 * (j / 3) ∨ j = 3 * (j / 3) + 1 ∨ j = 3 * (j / 3) + 2 := by omega
      rcases hm with e | e | e
      · exact this.lt (Or.inr (Or.inl (by rw [← e]; exact hk)))
      · exact this.lt (Or.inr (Or.inr (Or.inl (by rw [← e]; exact hk))))
      · exact this.lt (Or.inr (Or.inr (Or.inr (by rw [← e]; exact hk))))
    · rw [getD_out (by omega)] at hk; exact absurd hk (nilV_own k)
  · by_cases hj : j < s.iv.length
    · exact (h.mi j hj).lt (Or.inl hk)
    · rw [getD_out (by omega)] at hk; exact absurd hk (nilV_own k)
  · by_cases hj : j < s.lv.length
    · have hgl := h.ll
      have := h.mi (j / 3) (by omega)
      have hm : j = 3 * (j / 3) ∨ j = 3 * (j / 3) + 1 ∨ j = 3 * (j / 3) + 2 := by omega
      rcases hm with e | e | e
      · exact this.lt (Or.inr (Or.inl (by rw [← e]; exact hk)))
      · exact this.lt (Or.inr (Or.inr (Or.inl (by rw [← e]; exact hk))))
      · exact this.lt (Or.inr (Or.inr (Or.inr (by rw [← e]; exact hk))))
    · rw [getD_out (by omega)] at hk; exact absurd hk (nilV_own k)
  · by_cases hj : j < s.ls.length
    · obtain ⟨n, _, hn⟩ := h.ml j hj
      exact hn.lt hk
    · rw [getD_out (by omega)] at hk; exact absurd hk (nilV_own k)

/-- Where no block of the lists has turned. -/
theorem keep (h : ListsAt w f col N s) (hb : ∀ k, k < w.heap.size → 4 ≤ col k → w'.heap[k]? = w.heap[k]?) (hf : ∀ i, (i ≤ 5 ∨ 9 ≤ i) → i < 14 → f' i = f i) (hc : ∀ k, k < w.heap.size → 4 ≤ col k → col' k = col k) : ListsAt w' f' col' N s := by
  have e0 := hf 0 (by omega) (by omega)
  have e1 := hf 1 (by omega) (by omega)
  have e2 := hf 2 (by omega) (by omega)
  have e3 := hf 3 (by omega) (by omega)
  have e4 := hf 4 (by omega) (by omega)
  have e5 := hf 5 (by omega) (by omega)
  have e9 := hf 9 (by omega) (by omega)
  have e10 := hf 10 (by omega) (by omega)
  have e11 := hf 11 (by omega) (by omega)
  have e12 := hf 12 (by omega) (by omega)
  have e13 := hf 13 (by omega) (by omega)
  have ow : ∀ {e : TypeId} {v : Value} {n : Nat} {xs : List Value} {c : Nat}, w.ownsRow 0 e 1 v n xs → Col col c v → 4 ≤ c → w'.ownsRow 0 e 1 v n xs := fun ho hcc h4 => owns_of_block ho (fun k hk => hb k (ho.lt k hk).2 (by rw [hcc k hk]; exact h4))
  have cw : ∀ {e : TypeId} {v : Value} {n : Nat} {xs : List Value} {c : Nat}, w.ownsRow 0 e 1 v n xs → Col col c v → 4 ≤ c → Col col' c v := fun ho hcc h4 k hk => by rw [hc k (ho.lt k hk).2 (by rw [hcc k hk]; exact h4)]; exact hcc k hk
  have rw_ : ∀ {v : Value} {M : Nat} {rv : Nat → Value} {L : Nat → List Nat} {c : Nat}, RowsOwn w v M rv L → (∀ k, fpRows v M rv k → col k = c) → 4 ≤ c → RowsOwn w' v M rv L ∧ (∀ k, fpRows v M rv k → col' k = c) := fun ho hcc h4 => ⟨ho.blocks (fun k hk => hb k (ho.lt hk) (by rw [hcc k hk]; exact h4)), fun k hk => by rw [hc k (ho.lt hk) (by rw [hcc k hk]; exact h4)]; exact hcc k hk⟩
  have cm : ∀ {x : Value}, ((∃ j, x = s.tv.getD j nilV) ∨ (∃ j, x = s.gv.getD j nilV) ∨ (∃ j, x = s.iv.getD j nilV) ∨ (∃ j, x = s.lv.getD j nilV) ∨ (∃ j, x = s.ls.getD j nilV)) → Col col 11 x → Col col' 11 x := fun hx hcc k hk => by rw [hc k (h.marked_lt hx hk) (by rw [hcc k hk]; omega)]; exact hcc k hk
  obtain ⟨r4, r4c⟩ := rw_ h.kr h.c4 (by omega)
  obtain ⟨r5, r5c⟩ := rw_ h.wr h.c5 (by omega)
  refine ⟨by rw [e0]; exact h.came, by rw [e1]; exact h.bad, by rw [e2]; exact ow h.kt h.c2 (by omega), by rw [e3]; exact ow h.wt h.c3 (by omega), by rw [e4]; exact r4, by rw [e5]; exact r5, by rw [e9]; exact ow h.t h.c9 (by omega), by rw [e10]; exact ow h.g h.c10 (by omega), by rw [e11]; exact ow h.i h.c11 (by omega), by rw [e12]; exact ow h.l h.c12 (by omega), by rw [e13]; exact ow h.ls h.c13 (by omega), h.gl, h.ll, fun k hk => ?_, fun k hk => ?_, fun k hk => ?_, by rw [e2]; exact cw h.kt h.c2 (by omega), by rw [e3]; exact cw h.wt h.c3 (by omega), by rw [e4]; exact r4c, by rw [e5]; exact r5c, by rw [e9]; exact cw h.t h.c9 (by omega), by rw [e10]; exact cw h.g h.c10 (by omega), by rw [e11]; exact cw h.i h.c11 (by omega), by rw [e12]; exact cw h.l h.c12 (by omega), by rw [e13]; exact cw h.ls h.c13 (by omega), fun k => cm (Or.inl ⟨k, rfl⟩) (h.ct k), fun k => cm (Or.inr (Or.inl ⟨k, rfl⟩)) (h.cg k), fun k => cm (Or.inr (Or.inr (Or.inl ⟨k, rfl⟩))) (h.ci k), fun k => cm (Or.inr (Or.inr (Or.inr (Or.inl ⟨k, rfl⟩)))) (h.cl k), fun k => cm (Or.inr (Or.inr (Or.inr (Or.inr ⟨k, rfl⟩)))) (h.cs k), h.kb, h.Mb, h.Lb, h.tb, h.ib, h.lb, h.cb⟩
  · refine (h.mt k hk).keep (fun b hb' => hb b ((h.mt k hk).lt hb') ?_)
    rcases hb' with h1 | h1 | h1 | h1
    · rw [h.ct k b h1]; omega
    · rw [h.cg _ b h1]; omega
    · rw [h.cg _ b h1]; omega
    · rw [h.cg _ b h1]; omega
  · refine (h.mi k hk).keep (fun b hb' => hb b ((h.mi k hk).lt hb') ?_)
    rcases hb' with h1 | h1 | h1 | h1
    · rw [h.ci k b h1]; omega
    · rw [h.cl _ b h1]; omega
    · rw [h.cl _ b h1]; omega
    · rw [h.cl _ b h1]; omega
  · obtain ⟨n, hn, hf'⟩ := h.ml k hk
    exact ⟨n, hn, hf'.blocks (fun b hb' => hb b (hf'.lt hb') (by rw [h.cs k b hb']; omega))⟩

end ListsAt

end Go.Proofs.YtnjaofkieajnlaaGreat

/- The lists of the statement's world: dropped, kept, counted, marked. -/
namespace Go.Proofs.YtnjaofkieajnlaaGreat
open Go.RowKit

theorem getD_app_lt (l a : List Value) (j : Nat) (hj : j < l.length) : (l ++ a).getD j nilV = l.getD j nilV := by
  rw [List.getD_eq_getElem?_getD, List.getD_eq_getElem?_getD, List.getElem?_append_left hj]

theorem getD_app_at (l a : List Value) (j : Nat) : (l ++ a).getD (l.length + j) nilV = a.getD j nilV := by
  rw [List.getD_eq_getElem?_getD, List.getD_eq_getElem?_getD, List.getElem?_append_right (by omega), Nat.add_sub_cancel_left]

/-- Two colours change. -/
def recol (a b : Nat) (col : Nat → Nat) (k : Nat) : Nat := if col k = a then b else col k

theorem recol_ne {a b : Nat} {col : Nat → Nat} {k : Nat} (h : col k ≠ a) : recol a b col k = col k := by unfold recol; rw [if_neg h]

theorem recol_eq {a b : Nat} {col : Nat → Nat} {k : Nat} (h : col k = a) : recol a b col k = b := by unfold recol; rw [if_pos h]

theorem Col.recol_other {a b c : Nat} {col : Nat → Nat} {v : Value} (h : Col col c v) (hne : c ≠ a) : Col (recol a b col) c v := fun k hk => by rw [recol_ne (by rw [h k hk]; exact hne)]; exact h k hk

theorem Col.recol_same {a b : Nat} {col : Nat → Nat} {v : Value} (h : Col col a v) : Col (recol a b col) b v := fun k hk => recol_eq (h k hk)

theorem col_nil (col : Nat → Nat) (c : Nat) : Col col c nilV := fun k hk => absurd hk (nilV_own k)

namespace ListsAt
variable {w w' : World} {f f' : Nat → Value} {col : Nat → Nat} {N : Nat} {s : LS}

theorem mono (h : ListsAt w f col N s) {N' : Nat} (hN : N ≤ N') : ListsAt w f col N' s :=
  { h with tb := Nat.le_trans h.tb hN, ib := Nat.le_trans h.ib (Nat.mul_le_mul_left 20 hN), lb := Nat.le_trans h.lb hN, cb := Nat.le_trans h.cb hN }

/-- A colour that no list has is changed. -/
theorem recolour (h : ListsAt w f col N s) {a b : Nat} (ha : a < 4 ∨ 12 < a) : ListsAt w f (recol a b col) N s :=
  { h with
    c2 := h.c2.recol_other (by omega), c3 := h.c3.recol_other (by omega)
    c4 := fun k hk => by rw [recol_ne (by rw [h.c4 k hk]; omega)]; exact h.c4 k hk
    c5 := fun k hk => by rw [recol_ne (by rw [h.c5 k hk]; omega)]; exact h.c5 k hk
    c9 := h.c9.recol_other (by omega), c10 := h.c10.recol_other (by omega), c11 := h.c11.recol_other (by omega), c12 := h.c12.recol_other (by omega), c13 := h.c13.recol_other (by omega)
    ct := fun k => (h.ct k).recol_other (by omega), cg := fun k => (h.cg k).recol_other (by omega), ci := fun k => (h.ci k).recol_other (by omega), cl := fun k => (h.cl k).recol_other (by omega), cs := fun k => (h.cs k).recol_other (by omega) }

/-- The kept texts are let go: their block is of colour 13 now. -/
theorem dropT (h : ListsAt w f col N s) (e2 : f' 2 = nilV) (e3 : f' 3 = nilV) (hf : ∀ i, i ≠ 2 → i ≠ 3 → i < 14 → f' i = f i) : ListsAt w f' (recol 9 13 col) N { s with kL := [] } := by
  have e0 := hf 0 (by omega) (by omega) (by omega)
  have e1 := hf 1 (by omega) (by omega) (by omega)
  have e4 := hf 4 (by omega) (by omega) (by omega)
  have e5 := hf 5 (by omega) (by omega) (by omega)
  have e9 := hf 9 (by omega) (by omega) (by omega)
  have e10 := hf 10 (by omega) (by omega) (by omega)
  have e11 := hf 11 (by omega) (by omega) (by omega)
  have e12 := hf 12 (by omega) (by omega) (by omega)
  have e13 := hf 13 (by omega) (by omega) (by omega)
  exact ⟨by rw [e0]; exact h.came, by rw [e1]; exact h.bad, by rw [e2]; exact World.ownsRow_nil _ _ _ _, by rw [e3]; exact World.ownsRow_nil _ _ _ _, by rw [e4]; exact h.kr, by rw [e5]; exact h.wr, by rw [e9]; exact h.t, by rw [e10]; exact h.g, by rw [e11]; exact h.i, by rw [e12]; exact h.l, by rw [e13]; exact h.ls, h.gl, h.ll, h.mt, h.mi, h.ml, by rw [e2]; exact col_nil _ _, by rw [e3]; exact col_nil _ _, by rw [e4]; exact fun k hk => by rw [recol_ne (by rw [h.c4 k hk]; omega)]; exact h.c4 k hk, by rw [e5]; exact fun k hk => by rw [recol_ne (by rw [h.c5 k hk]; omega)]; exact h.c5 k hk, by rw [e9]; exact h.c9.recol_other (by omega), by rw [e10]; exact h.c10.recol_other (by omega), by rw [e11]; exact h.c11.recol_other (by omega), by rw [e12]; exact h.c12.recol_other (by omega), by rw [e13]; exact h.c13.recol_other (by omega), fun k => (h.ct k).recol_other (by omega), fun k => (h.cg k).recol_other (by omega), fun k => (h.ci k).recol_other (by omega), fun k => (h.cl k).recol_other (by omega), fun k => (h.cs k).recol_other (by omega), Nat.zero_le _, h.Mb, h.Lb, h.tb, h.ib, h.lb, h.cb⟩

/-- The kept rows are let go: their blocks are of colour 16 now. -/
theorem dropR (h : ListsAt w f col N s) (e4 : f' 4 = nilV) (e5 : f' 5 = nilV) (hf : ∀ i, i ≠ 4 → i ≠ 5 → i < 14 → f' i = f i) : ListsAt w f' (recol 10 16 col) N { s with M := 0 } := by
  have e0 := hf 0 (by omega) (by omega) (by omega)
  have e1 := hf 1 (by omega) (by omega) (by omega)
  have e2 := hf 2 (by omega) (by omega) (by omega)
  have e3 := hf 3 (by omega) (by omega) (by omega)
  have e9 := hf 9 (by omega) (by omega) (by omega)
  have e10 := hf 10 (by omega) (by omega) (by omega)
  have e11 := hf 11 (by omega) (by omega) (by omega)
  have e12 := hf 12 (by omega) (by omega) (by omega)
  have e13 := hf 13 (by omega) (by omega) (by omega)
  have hnil : ∀ (rv : Nat → Value) k, ¬ fpRows nilV 0 rv k := fun rv k hk => by
    rcases hk with hk | ⟨i, hi, _⟩
    · exact nilV_own k hk
    · exact absurd hi (Nat.not_lt_zero _)
  exact ⟨by rw [e0]; exact h.came, by rw [e1]; exact h.bad, by rw [e2]; exact h.kt, by rw [e3]; exact h.wt, by rw [e4]; exact RowsOwn.nil _ _ _, by rw [e5]; exact RowsOwn.nil _ _ _, by rw [e9]; exact h.t, by rw [e10]; exact h.g, by rw [e11]; exact h.i, by rw [e12]; exact h.l, by rw [e13]; exact h.ls, h.gl, h.ll, h.mt, h.mi, h.ml, by rw [e2]; exact h.c2.recol_other (by omega), by rw [e3]; exact h.c3.recol_other (by omega), by rw [e4]; exact fun k hk => absurd hk (hnil _ k), by rw [e5]; exact fun k hk => absurd hk (hnil _ k), by rw [e9]; exact h.c9.recol_other (by omega), by rw [e10]; exact h.c10.recol_other (by omega), by rw [e11]; exact h.c11.recol_other (by omega), by rw [e12]; exact h.c12.recol_other (by omega), by rw [e13]; exact h.c13.recol_other (by omega), fun k => (h.ct k).recol_other (by omega), fun k => (h.cg k).recol_other (by omega), fun k => (h.ci k).recol_other (by omega), fun k => (h.cl k).recol_other (by omega), fun k => (h.cs k).recol_other (by omega), h.kb, Nat.zero_le _, fun i hi => absurd hi (Nat.not_lt_zero _), h.tb, h.ib, h.lb, h.cb⟩

/-- A list of texts (colour 15) is kept, with a copy (colour 14). -/
theorem keepT (h : ListsAt w f col N s) {L : List ByteArray} (hl : w.ownsRow 0 9 1 (f' 2) L.length (textV L)) (hv : w.ownsRow 0 9 1 (f' 3) L.length (textV L)) (hlc : Col col 15 (f' 2)) (hvc : Col col 14 (f' 3)) (hL : L.length ≤ 1000) (hf : ∀ i, i ≠ 2 → i ≠ 3 → i < 14 → f' i = f i) : ListsAt w f' (recol 14 12 (recol 15 9 col)) N { s with kL := L } := by
  have e0 := hf 0 (by omega) (by omega) (by omega)
  have e1 := hf 1 (by omega) (by omega) (by omega)
  have e4 := hf 4 (by omega) (by omega) (by omega)
  have e5 := hf 5 (by omega) (by omega) (by omega)
  have e9 := hf 9 (by omega) (by omega) (by omega)
  have e10 := hf 10 (by omega) (by omega) (by omega)
  have e11 := hf 11 (by omega) (by omega) (by omega)
  have e12 := hf 12 (by omega) (by omega) (by omega)
  have e13 := hf 13 (by omega) (by omega) (by omega)
  have h' := (h.recolour (a := 15) (b := 9) (by omega)).recolour (a := 14) (b := 12) (by omega)
  exact ⟨by rw [e0]; exact h.came, by rw [e1]; exact h.bad, hl, hv, by rw [e4]; exact h.kr, by rw [e5]; exact h.wr, by rw [e9]; exact h.t, by rw [e10]; exact h.g, by rw [e11]; exact h.i, by rw [e12]; exact h.l, by rw [e13]; exact h.ls, h.gl, h.ll, h.mt, h.mi, h.ml, (hlc.recol_same (b := 9)).recol_other (by omega), (hvc.recol_other (a := 15) (b := 9) (by omega)).recol_same, by rw [e4]; exact h'.c4, by rw [e5]; exact h'.c5, by rw [e9]; exact h'.c9, by rw [e10]; exact h'.c10, by rw [e11]; exact h'.c11, by rw [e12]; exact h'.c12, by rw [e13]; exact h'.c13, h'.ct, h'.cg, h'.ci, h'.cl, h'.cs, hL, h.Mb, h.Lb, h.tb, h.ib, h.lb, h.cb⟩

/-- A list of rows (colour 15) is kept, with a copy (colour 14). -/
theorem keepR (h : ListsAt w f col N s) {M : Nat} {rv rv2 : Nat → Value} {L : Nat → List Nat} (hl : RowsOwn w (f' 4) M rv L) (hv : RowsOwn w (f' 5) M rv2 L) (hlc : ∀ k, fpRows (f' 4) M rv k → col k = 15) (hvc : ∀ k, fpRows (f' 5) M rv2 k → col k = 14) (hM : M ≤ 20) (hL : ∀ i, i < M → 1 ≤ (L i).length ∧ (L i).length ≤ 1000) (hf : ∀ i, i ≠ 4 → i ≠ 5 → i < 14 → f' i = f i) : ListsAt w f' (recol 14 12 (recol 15 10 col)) N { s with M := M, rv := rv, rv2 := rv2, RL := L } := by
  have e0 := hf 0 (by omega) (by omega) (by omega)
  have e1 := hf 1 (by omega) (by omega) (by omega)
  have e2 := hf 2 (by omega) (by omega) (by omega)
  have e3 := hf 3 (by omega) (by omega) (by omega)
  have e9 := hf 9 (by omega) (by omega) (by omega)
  have e10 := hf 10 (by omega) (by omega) (by omega)
  have e11 := hf 11 (by omega) (by omega) (by omega)
  have e12 := hf 12 (by omega) (by omega) (by omega)
  have e13 := hf 13 (by omega) (by omega) (by omega)
  have h' := (h.recolour (a := 15) (b := 10) (by omega)).recolour (a := 14) (b := 12) (by omega)
  exact ⟨by rw [e0]; exact h.came, by rw [e1]; exact h.bad, by rw [e2]; exact h.kt, by rw [e3]; exact h.wt, hl, hv, by rw [e9]; exact h.t, by rw [e10]; exact h.g, by rw [e11]; exact h.i, by rw [e12]; exact h.l, by rw [e13]; exact h.ls, h.gl, h.ll, h.mt, h.mi, h.ml, by rw [e2]; exact h'.c2, by rw [e3]; exact h'.c3, fun k hk => by rw [recol_ne (by rw [recol_eq (hlc k hk)]; omega), recol_eq (hlc k hk)], fun k hk => by rw [recol_eq (by rw [recol_ne (by rw [hvc k hk]; omega)]; exact hvc k hk)], by rw [e9]; exact h'.c9, by rw [e10]; exact h'.c10, by rw [e11]; exact h'.c11, by rw [e12]; exact h'.c12, by rw [e13]; exact h'.c13, h'.ct, h'.cg, h'.ci, h'.cl, h'.cs, h.kb, hM, hL, h.tb, h.ib, h.lb, h.cb⟩

/-- One list more has come. -/
theorem count (h : ListsAt w f col N s) (e0 : f' 0 = .int .i64 ((s.came + 1 : Nat) : Int)) (hf : ∀ i, i ≠ 0 → i < 14 → f' i = f i) : ListsAt w f' col (N + 1) { s with came := s.came + 1 } := by
  have e1 := hf 1 (by omega) (by omega)
  have e2 := hf 2 (by omega) (by omega)
  have e3 := hf 3 (by omega) (by omega)
  have e4 := hf 4 (by omega) (by omega)
  have e5 := hf 5 (by omega) (by omega)
  have e9 := hf 9 (by omega) (by omega)
  have e10 := hf 10 (by omega) (by omega)
  have e11 := hf 11 (by omega) (by omega)
  have e12 := hf 12 (by omega) (by omega)
  have e13 := hf 13 (by omega) (by omega)
  have hb := h.ib
  have hb2 := h.cb
  have hb3 := h.tb
  have hb4 := h.lb
  exact ⟨e0, by rw [e1]; exact h.bad, by rw [e2]; exact h.kt, by rw [e3]; exact h.wt, by rw [e4]; exact h.kr, by rw [e5]; exact h.wr, by rw [e9]; exact h.t, by rw [e10]; exact h.g, by rw [e11]; exact h.i, by rw [e12]; exact h.l, by rw [e13]; exact h.ls, h.gl, h.ll, h.mt, h.mi, h.ml, by rw [e2]; exact h.c2, by rw [e3]; exact h.c3, by rw [e4]; exact h.c4, by rw [e5]; exact h.c5, by rw [e9]; exact h.c9, by rw [e10]; exact h.c10, by rw [e11]; exact h.c11, by rw [e12]; exact h.c12, by rw [e13]; exact h.c13, h.ct, h.cg, h.ci, h.cl, h.cs, h.kb, h.Mb, h.Lb, by show s.tv.length ≤ N + 1; omega, by show s.iv.length ≤ 20 * (N + 1); omega, by show s.ls.length ≤ N + 1; omega, by show s.came + 1 ≤ N + 1; omega⟩

end ListsAt

/-- The colours behind the marking of texts. -/
noncomputable def colT (w : World) (col : Nat → Nat) (v9 v10 : Value) (k : Nat) : Nat :=
  if k < w.heap.size then recol 13 11 col k else if v9.ownBlock = some k then 4 else if v10.ownBlock = some k then 5 else 11

/-- A list of texts (colour 13) is marked. -/
theorem ListsAt.markT {w w' : World} {f f0 f' : Nat → Value} {col : Nat → Nat} {N : Nat} {s : LS} {wb : Nat} {l : Value} {n : Nat} {xs : List Value} {v9 v10 g1 g2 g3 : Value} (h : ListsAt w f col N s) (hl : w.ownsRow 0 9 1 l n xs) (hn : n ≤ 1000) (hlc : Col col 13 l) (hwb : col wb = 0) (hm : MarkT w w' wb f0 s.tv s.gv l n v9 v10 g1 g2 g3) (h9 : f0 9 = f 9) (h10 : f0 10 = f 10) (e9 : f' 9 = v9) (e10 : f' 10 = v10) (hf : ∀ i, i ≠ 9 → i ≠ 10 → i < 14 → f' i = f i) (hN : s.tv.length + 1 ≤ N) : ListsAt w' f' (colT w col v9 v10) N { s with tv := s.tv ++ [l], gv := s.gv ++ [g1, g2, g3] } := by
  have hold : ∀ k, k < w.heap.size → colT w col v9 v10 k = recol 13 11 col k := fun k hk => by unfold colT; rw [if_pos hk]
  have hkeep : ∀ k, k < w.heap.size → col k ≠ 0 → col k ≠ 4 → col k ≠ 5 → col k ≠ 13 → w'.heap[k]? = w.heap[k]? := fun k hk n0 n4 n5 n13 => hm.chg.block k hk (fun x => by
    rcases x with rfl | x | x | x
    · exact n0 hwb
    · rw [h9] at x; exact n4 (h.c9 k x)
    · rw [h10] at x; exact n5 (h.c10 k x)
    · exact n13 (hlc k x))
  have ow : ∀ {e : TypeId} {v : Value} {m : Nat} {ys : List Value} {c : Nat}, w.ownsRow 0 e 1 v m ys → Col col c v → (6 ≤ c ∧ c ≤ 12) → w'.ownsRow 0 e 1 v m ys := fun ho hcc h4 => owns_of_block ho (fun k hk => hkeep k (ho.lt k hk).2 (by rw [hcc k hk]; omega) (by rw [hcc k hk]; omega) (by rw [hcc k hk]; omega) (by rw [hcc k hk]; omega))
  have cw : ∀ {v : Value} {c : Nat}, Col col c v → c ≠ 13 → (∀ k, v.ownBlock = some k → k < w.heap.size) → Col (colT w col v9 v10) c v := fun hcc hne hlt k hk => by rw [hold k (hlt k hk), recol_ne (by rw [hcc k hk]; exact hne)]; exact hcc k hk
  have rk : ∀ {v : Value} {M : Nat} {rv : Nat → Value} {L : Nat → List Nat} {c : Nat}, RowsOwn w v M rv L → (∀ k, fpRows v M rv k → col k = c) → (6 ≤ c ∧ c ≤ 12) → RowsOwn w' v M rv L ∧ (∀ k, fpRows v M rv k → colT w col v9 v10 k = c) := fun ho hcc h4 => ⟨ho.blocks (fun k hk => hkeep k (ho.lt hk) (by rw [hcc k hk]; omega) (by rw [hcc k hk]; omega) (by rw [hcc k hk]; omega) (by rw [hcc k hk]; omega)), fun k hk => by rw [hold k (ho.lt hk), recol_ne (by rw [hcc k hk]; omega)]; exact hcc k hk⟩
  obtain ⟨r4, r4c⟩ := rk h.kr h.c4 (by omega)
  obtain ⟨r5, r5c⟩ := rk h.wr h.c5 (by omega)
  have e0 := hf 0 (by omega) (by omega) (by omega)
  have e1 := hf 1 (by omega) (by omega) (by omega)
  have e2 := hf 2 (by omega) (by omega) (by omega)
  have e3 := hf 3 (by omega) (by omega) (by omega)
  have e4 := hf 4 (by omega) (by omega) (by omega)
  have e5 := hf 5 (by omega) (by omega) (by omega)
  have e11 := hf 11 (by omega) (by omega) (by omega)
  have e12 := hf 12 (by omega) (by omega) (by omega)
  have e13 := hf 13 (by omega) (by omega) (by omega)
  have hg1 : ∀ {x : Value} {m : Nat}, RowFull w' 9 x m (.string (stroke s.tv.length)) → (∀ k, x.ownBlock = some k → l.ownBlock = some k ∨ w.heap.size ≤ k) → Col (colT w col v9 v10) 11 x := fun {x m} hx hb k hk => by
    rcases hb k hk with h1 | h1
    · rw [hold k (hl.lt k h1).2]; exact recol_eq (hlc k h1)
    · unfold colT
      rw [if_neg (by omega), if_neg (fun e => owns_apartT hm.t hx (by decide) hk e), if_neg (fun e => owns_apartT hm.g hx (by decide) hk e)]
  have cl0 : Col (colT w col v9 v10) 11 l := hg1 hm.l0 (fun k hk => Or.inl hk)
  have cl1 := hg1 hm.l1 hm.b1
  have cl2 := hg1 hm.l2 hm.b2
  have cl3 := hg1 hm.l3 hm.b3
  have ct' : ∀ k, Col (colT w col v9 v10) 11 ((s.tv ++ [l]).getD k nilV) := fun k => by
    by_cases hk : k < s.tv.length
    · rw [getD_app_lt _ _ _ hk]; exact cw (h.ct k) (by omega) (fun b hb => h.marked_lt (Or.inl ⟨k, rfl⟩) hb)
    · by_cases hk2 : k = s.tv.length
      · have := getD_app_at s.tv [l] 0
        rw [hk2]
        rw [Nat.add_zero] at this
        rw [this]; exact cl0
      · rw [getD_out (by simp; omega)]; exact col_nil _ _
  have cg' : ∀ k, Col (colT w col v9 v10) 11 ((s.gv ++ [g1, g2, g3]).getD k nilV) := fun k => by
    by_cases hk : k < s.gv.length
    · rw [getD_app_lt _ _ _ hk]; exact cw (h.cg k) (by omega) (fun b hb => h.marked_lt (Or.inr (Or.inl ⟨k, rfl⟩)) hb)
    · obtain ⟨d, rfl⟩ : ∃ d, k = s.gv.length + d := ⟨k - s.gv.length, by omega⟩
      rw [getD_app_at]
      match d with
      | 0 => exact cl1
      | 1 => exact cl2
      | 2 => exact cl3
      | d + 3 => exact col_nil _ _
  have hb := h.tb
  refine ⟨by rw [e0]; exact h.came, by rw [e1]; exact h.bad, by rw [e2]; exact ow h.kt h.c2 (by omega), by rw [e3]; exact ow h.wt h.c3 (by omega), by rw [e4]; exact r4, by rw [e5]; exact r5, ?_, ?_, by rw [e11]; exact ow h.i h.c11 (by omega), by rw [e12]; exact ow h.l h.c12 (by omega), by rw [e13]; exact ow h.ls h.c13 (by omega), ?_, h.ll, fun k hk => ?_, fun k hk => ?_, fun k hk => ?_, by rw [e2]; exact cw h.c2 (by omega) (fun k hk => (h.kt.lt k hk).2), by rw [e3]; exact cw h.c3 (by omega) (fun k hk => (h.wt.lt k hk).2), by rw [e4]; exact r4c, by rw [e5]; exact r5c, ?_, ?_, by rw [e11]; exact cw h.c11 (by omega) (fun k hk => (h.i.lt k hk).2), by rw [e12]; exact cw h.c12 (by omega) (fun k hk => (h.l.lt k hk).2), by rw [e13]; exact cw h.c13 (by omega) (fun k hk => (h.ls.lt k hk).2), ct', cg', fun k => cw (h.ci k) (by omega) (fun b hb => h.marked_lt (Or.inr (Or.inr (Or.inl ⟨k, rfl⟩))) hb), fun k => cw (h.cl k) (by omega) (fun b hb => h.marked_lt (Or.inr (Or.inr (Or.inr (Or.inl ⟨k, rfl⟩)))) hb), fun k => cw (h.cs k) (by omega) (fun b hb => h.marked_lt (Or.inr (Or.inr (Or.inr (Or.inr ⟨k, rfl⟩)))) hb), h.kb, h.Mb, h.Lb, by simpa using hN, h.ib, h.lb, h.cb⟩
  · rw [e9]
    have := hm.t
    simpa using this
  · rw [e10]
    have := hm.g
    simpa using this
  · simp [h.gl]; omega
  · have hgl := h.gl
    by_cases hk2 : k < s.tv.length
    · show MarkedT w' (stroke k) ((s.tv ++ [l]).getD k nilV) ((s.gv ++ [g1, g2, g3]).getD (3 * k) nilV) ((s.gv ++ [g1, g2, g3]).getD (3 * k + 1) nilV) ((s.gv ++ [g1, g2, g3]).getD (3 * k + 2) nilV)
      rw [getD_app_lt _ _ _ hk2, getD_app_lt _ _ _ (by omega), getD_app_lt _ _ _ (by omega), getD_app_lt _ _ _ (by omega)]
      refine (h.mt k hk2).keep (fun b hb' => ?_)
      have hc11 : col b = 11 := by
        rcases hb' with h1 | h1 | h1 | h1
        · exact h.ct k b h1
        · exact h.cg _ b h1
        · exact h.cg _ b h1
        · exact h.cg _ b h1
      exact hkeep b ((h.mt k hk2).lt hb') (by omega) (by omega) (by omega) (by omega)
    · have hke : k = s.tv.length := by simp at hk; omega
      subst hke
      show MarkedT w' (stroke s.tv.length) ((s.tv ++ [l]).getD s.tv.length nilV) ((s.gv ++ [g1, g2, g3]).getD (3 * s.tv.length) nilV) ((s.gv ++ [g1, g2, g3]).getD (3 * s.tv.length + 1) nilV) ((s.gv ++ [g1, g2, g3]).getD (3 * s.tv.length + 2) nilV)
      rw [← hgl]
      have a0 := getD_app_at s.tv [l] 0
      have a1 := getD_app_at s.gv [g1, g2, g3] 0
      have a2 := getD_app_at s.gv [g1, g2, g3] 1
      have a3 := getD_app_at s.gv [g1, g2, g3] 2
      rw [Nat.add_zero] at a0 a1
      rw [a0, a1, a2, a3]
      exact ⟨n, hn, hm.l0, hm.l1, hm.l2, hm.l3⟩
  · refine (h.mi k hk).keep (fun b hb' => ?_)
    have hc11 : col b = 11 := by
      rcases hb' with h1 | h1 | h1 | h1
      · exact h.ci k b h1
      · exact h.cl _ b h1
      · exact h.cl _ b h1
      · exact h.cl _ b h1
    exact hkeep b ((h.mi k hk).lt hb') (by omega) (by omega) (by omega) (by omega)
  · obtain ⟨m, hm', hf'⟩ := h.ml k hk
    exact ⟨m, hm', hf'.blocks (fun b hb' => hkeep b (hf'.lt hb') (by rw [h.cs k b hb']; omega) (by rw [h.cs k b hb']; omega) (by rw [h.cs k b hb']; omega) (by rw [h.cs k b hb']; omega))⟩
  · rw [e9]
    intro k hk
    rcases hm.b9 k hk with h1 | h1
    · rw [h9] at h1
      rw [hold k (h.t.lt k h1).2, recol_ne (by rw [h.c9 k h1]; omega)]; exact h.c9 k h1
    · unfold colT; rw [if_neg (by omega), if_pos hk]
  · rw [e10]
    intro k hk
    rcases hm.b10 k hk with h1 | h1
    · rw [h10] at h1
      rw [hold k (h.g.lt k h1).2, recol_ne (by rw [h.c10 k h1]; omega)]; exact h.c10 k h1
    · unfold colT; rw [if_neg (by omega), if_neg (fun e => hm.apart k e hk), if_pos hk]

/-- The colours behind the marking of rows. -/
noncomputable def colR (w : World) (col : Nat → Nat) (v11 v12 v13 : Value) (k : Nat) : Nat :=
  if k < w.heap.size then recol 16 11 col k else if v11.ownBlock = some k then 6 else if v12.ownBlock = some k then 7 else if v13.ownBlock = some k then 8 else 11

/-- A list of rows (colour 16) is marked. -/
theorem ListsAt.markR {w w' : World} {f f0 f' : Nat → Value} {col : Nat → Nat} {N : Nat} {s : LS} {wb : Nat} {v : Value} {M : Nat} {rv : Nat → Value} {L : Nat → List Nat} {v11 v12 v13 : Value} {ivs lvs : List Value} (h : ListsAt w f col N s) (hro : RowsOwn w v M rv L) (hM : M ≤ 20) (hlc : ∀ k, fpRows v M rv k → col k = 16) (hwb : col wb = 0) (hm : MarkR w w' wb f0 s.iv s.lv s.ls v M rv v11 v12 v13 ivs lvs) (h11 : f0 11 = f 11) (h12 : f0 12 = f 12) (h13 : f0 13 = f 13) (e11 : f' 11 = v11) (e12 : f' 12 = v12) (e13 : f' 13 = v13) (hf : ∀ i, i < 11 → f' i = f i) (hN : s.iv.length + M ≤ 20 * N) (hN2 : s.ls.length + 1 ≤ N) : ListsAt w' f' (colR w col v11 v12 v13) N { s with iv := s.iv ++ ivs, lv := s.lv ++ lvs, ls := s.ls ++ [v] } := by
  have hold : ∀ k, k < w.heap.size → colR w col v11 v12 v13 k = recol 16 11 col k := fun k hk => by unfold colR; rw [if_pos hk]
  have hkeep : ∀ k, k < w.heap.size → col k ≠ 0 → col k ≠ 6 → col k ≠ 7 → col k ≠ 8 → col k ≠ 16 → w'.heap[k]? = w.heap[k]? := fun k hk n0 n6 n7 n8 n16 => hm.chg.block k hk (fun x => by
    rcases x with rfl | x | x | x | x
    · exact n0 hwb
    · rw [h11] at x; exact n6 (h.c11 k x)
    · rw [h12] at x; exact n7 (h.c12 k x)
    · rw [h13] at x; exact n8 (h.c13 k x)
    · exact n16 (hlc k x))
  have ow : ∀ {e : TypeId} {x : Value} {m : Nat} {ys : List Value} {c : Nat}, w.ownsRow 0 e 1 x m ys → Col col c x → (4 ≤ c ∧ c ≤ 5 ∨ 9 ≤ c ∧ c ≤ 12) → w'.ownsRow 0 e 1 x m ys := fun ho hcc h4 => owns_of_block ho (fun k hk => hkeep k (ho.lt k hk).2 (by rw [hcc k hk]; omega) (by rw [hcc k hk]; omega) (by rw [hcc k hk]; omega) (by rw [hcc k hk]; omega) (by rw [hcc k hk]; omega))
  have cw : ∀ {x : Value} {c : Nat}, Col col c x → c ≠ 16 → (∀ k, x.ownBlock = some k → k < w.heap.size) → Col (colR w col v11 v12 v13) c x := fun hcc hne hlt k hk => by rw [hold k (hlt k hk), recol_ne (by rw [hcc k hk]; exact hne)]; exact hcc k hk
  have rk : ∀ {x : Value} {M' : Nat} {rv' : Nat → Value} {L' : Nat → List Nat} {c : Nat}, RowsOwn w x M' rv' L' → (∀ k, fpRows x M' rv' k → col k = c) → (9 ≤ c ∧ c ≤ 12) → RowsOwn w' x M' rv' L' ∧ (∀ k, fpRows x M' rv' k → colR w col v11 v12 v13 k = c) := fun ho hcc h4 => ⟨ho.blocks (fun k hk => hkeep k (ho.lt hk) (by rw [hcc k hk]; omega) (by rw [hcc k hk]; omega) (by rw [hcc k hk]; omega) (by rw [hcc k hk]; omega) (by rw [hcc k hk]; omega)), fun k hk => by rw [hold k (ho.lt hk), recol_ne (by rw [hcc k hk]; omega)]; exact hcc k hk⟩
  obtain ⟨r4, r4c⟩ := rk h.kr h.c4 (by omega)
  obtain ⟨r5, r5c⟩ := rk h.wr h.c5 (by omega)
  have e0 := hf 0 (by omega)
  have e1 := hf 1 (by omega)
  have e2 := hf 2 (by omega)
  have e3 := hf 3 (by omega)
  have e4 := hf 4 (by omega)
  have e5 := hf 5 (by omega)
  have e9 := hf 9 (by omega)
  have e10 := hf 10 (by omega)
  have hg1 : ∀ {x : Value} {m : Nat} {u : Value} (j : Nat), j < M → RowFull w' 3 x m u → (∀ k, x.ownBlock = some k → (rv j).ownBlock = some k ∨ w.heap.size ≤ k) → Col (colR w col v11 v12 v13) 11 x := fun {x m u} j hj hx hb k hk => by
    rcases hb k hk with h1 | h1
    · rw [hold k (hro.lt (Or.inr ⟨j, hj, h1⟩))]; exact recol_eq (hlc k (Or.inr ⟨j, hj, h1⟩))
    · unfold colR
      rw [if_neg (by omega), if_neg (fun e => owns_apartT hm.i11 hx (by decide) hk e), if_neg (fun e => owns_apartT hm.i12 hx (by decide) hk e), if_neg (fun e => owns_apartT hm.i13 hx (by decide) hk e)]
  have hnew : ∀ j, j < M → Col (colR w col v11 v12 v13) 11 (ivs.getD j nilV) ∧ Col (colR w col v11 v12 v13) 11 (lvs.getD (3 * j) nilV) ∧ Col (colR w col v11 v12 v13) 11 (lvs.getD (3 * j + 1) nilV) ∧ Col (colR w col v11 v12 v13) 11 (lvs.getD (3 * j + 2) nilV) := fun j hj => by
    have hmj := hm.marked j hj
    obtain ⟨n, _, f0', f1, f2, f3⟩ := hmj.full
    exact ⟨hg1 j hj f0' hmj.ba, hg1 j hj f1 hmj.bb1, hg1 j hj f2 hmj.bb2, hg1 j hj f3 hmj.bb3⟩
  have ci' : ∀ k, Col (colR w col v11 v12 v13) 11 ((s.iv ++ ivs).getD k nilV) := fun k => by
    by_cases hk : k < s.iv.length
    · rw [getD_app_lt _ _ _ hk]; exact cw (h.ci k) (by omega) (fun b hb => h.marked_lt (Or.inr (Or.inr (Or.inl ⟨k, rfl⟩))) hb)
    · obtain ⟨d, rfl⟩ : ∃ d, k = s.iv.length + d := ⟨k - s.iv.length, by omega⟩
      rw [getD_app_at]
      by_cases hd : d < M
      · exact (hnew d hd).1
      · rw [getD_out (by rw [hm.il]; omega)]; exact col_nil _ _
  have cl' : ∀ k, Col (colR w col v11 v12 v13) 11 ((s.lv ++ lvs).getD k nilV) := fun k => by
    by_cases hk : k < s.lv.length
    · rw [getD_app_lt _ _ _ hk]; exact cw (h.cl k) (by omega) (fun b hb => h.marked_lt (Or.inr (Or.inr (Or.inr (Or.inl ⟨k, rfl⟩)))) hb)
    · obtain ⟨d, rfl⟩ : ∃ d, k = s.lv.length + d := ⟨k - s.lv.length, by omega⟩
      rw [getD_app_at]
      by_cases hd : d < 3 * M
      · have hx := hnew (d / 3) (by omega)
        have hdd : d = 3 * (d / 3) ∨ d = 3 * (d / 3) + 1 ∨ d = 3 * (d / 3) + 2 := by omega
        rcases hdd with e | e | e
        · rw [e]; exact hx.2.1
        · rw [e]; exact hx.2.2.1
        · rw [e]; exact hx.2.2.2
      · rw [getD_out (by rw [hm.ll]; omega)]; exact col_nil _ _
  have cv : Col (colR w col v11 v12 v13) 11 v := fun k hk => by
    rw [hold k (hro.lt (Or.inl hk))]; exact recol_eq (hlc k (Or.inl hk))
  have cs' : ∀ k, Col (colR w col v11 v12 v13) 11 ((s.ls ++ [v]).getD k nilV) := fun k => by
    by_cases hk : k < s.ls.length
    · rw [getD_app_lt _ _ _ hk]; exact cw (h.cs k) (by omega) (fun b hb => h.marked_lt (Or.inr (Or.inr (Or.inr (Or.inr ⟨k, rfl⟩)))) hb)
    · by_cases hk2 : k = s.ls.length
      · have := getD_app_at s.ls [v] 0
        rw [hk2]
        rw [Nat.add_zero] at this
        rw [this]; exact cv
      · rw [getD_out (by simp; omega)]; exact col_nil _ _
  refine ⟨by rw [e0]; exact h.came, by rw [e1]; exact h.bad, by rw [e2]; exact ow h.kt h.c2 (by omega), by rw [e3]; exact ow h.wt h.c3 (by omega), by rw [e4]; exact r4, by rw [e5]; exact r5, by rw [e9]; exact ow h.t h.c9 (by omega), by rw [e10]; exact ow h.g h.c10 (by omega), ?_, ?_, ?_, h.gl, ?_, fun k hk => ?_, fun k hk => ?_, fun k hk => ?_, by rw [e2]; exact cw h.c2 (by omega) (fun k hk => (h.kt.lt k hk).2), by rw [e3]; exact cw h.c3 (by omega) (fun k hk => (h.wt.lt k hk).2), by rw [e4]; exact r4c, by rw [e5]; exact r5c, by rw [e9]; exact cw h.c9 (by omega) (fun k hk => (h.t.lt k hk).2), by rw [e10]; exact cw h.c10 (by omega) (fun k hk => (h.g.lt k hk).2), ?_, ?_, ?_, fun k => cw (h.ct k) (by omega) (fun b hb => h.marked_lt (Or.inl ⟨k, rfl⟩) hb), fun k => cw (h.cg k) (by omega) (fun b hb => h.marked_lt (Or.inr (Or.inl ⟨k, rfl⟩)) hb), ci', cl', cs', h.kb, h.Mb, h.Lb, h.tb, by show (s.iv ++ ivs).length ≤ 20 * N; rw [List.length_append, hm.il]; exact hN, by show (s.ls ++ [v]).length ≤ N; simpa using hN2, h.cb⟩
  · rw [e11]
    have := hm.i11
    show w'.ownsRow 0 _ 1 v11 (s.iv ++ ivs).length (s.iv ++ ivs)
    rw [List.length_append, hm.il]; exact this
  · rw [e12]
    have := hm.i12
    show w'.ownsRow 0 _ 1 v12 (s.lv ++ lvs).length (s.lv ++ lvs)
    rw [List.length_append, hm.ll]; exact this
  · rw [e13]
    have := hm.i13
    show w'.ownsRow 0 _ 1 v13 (s.ls ++ [v]).length (s.ls ++ [v])
    rw [List.length_append]; exact this
  · show (s.lv ++ lvs).length = 3 * (s.iv ++ ivs).length
    rw [List.length_append, List.length_append, hm.ll, hm.il, h.ll]; omega
  · refine (h.mt k hk).keep (fun b hb' => ?_)
    have hc11 : col b = 11 := by
      rcases hb' with h1 | h1 | h1 | h1
      · exact h.ct k b h1
      · exact h.cg _ b h1
      · exact h.cg _ b h1
      · exact h.cg _ b h1
    exact hkeep b ((h.mt k hk).lt hb') (by omega) (by omega) (by omega) (by omega) (by omega)
  · have hll := h.ll
    show MarkedN w' (-1 - (k : Int)) ((s.iv ++ ivs).getD k nilV) ((s.lv ++ lvs).getD (3 * k) nilV) ((s.lv ++ lvs).getD (3 * k + 1) nilV) ((s.lv ++ lvs).getD (3 * k + 2) nilV)
    by_cases hk2 : k < s.iv.length
    · rw [getD_app_lt _ _ _ hk2, getD_app_lt _ _ _ (by omega), getD_app_lt _ _ _ (by omega), getD_app_lt _ _ _ (by omega)]
      refine (h.mi k hk2).keep (fun b hb' => ?_)
      have hc11 : col b = 11 := by
        rcases hb' with h1 | h1 | h1 | h1
        · exact h.ci k b h1
        · exact h.cl _ b h1
        · exact h.cl _ b h1
        · exact h.cl _ b h1
      exact hkeep b ((h.mi k hk2).lt hb') (by omega) (by omega) (by omega) (by omega) (by omega)
    · obtain ⟨d, rfl⟩ : ∃ d, k = s.iv.length + d := ⟨k - s.iv.length, by omega⟩
      have hdM : d < M := by
        have : s.iv.length + d < (s.iv ++ ivs).length := hk
        rw [List.length_append, hm.il] at this; omega
      have a0 := getD_app_at s.iv ivs d
      have a1 := getD_app_at s.lv lvs (3 * d)
      have a2 := getD_app_at s.lv lvs (3 * d + 1)
      have a3 := getD_app_at s.lv lvs (3 * d + 2)
      rw [show 3 * (s.iv.length + d) = s.lv.length + 3 * d by omega, show s.lv.length + 3 * d + 1 = s.lv.length + (3 * d + 1) by omega, show s.lv.length + 3 * d + 2 = s.lv.length + (3 * d + 2) by omega, a0, a1, a2, a3]
      exact (hm.marked d hdM).full
  · show ∃ n, n ≤ 20 ∧ RowFull w' 63 ((s.ls ++ [v]).getD k nilV) n nilV
    by_cases hk2 : k < s.ls.length
    · rw [getD_app_lt _ _ _ hk2]
      obtain ⟨m, hm', hf'⟩ := h.ml k hk2
      exact ⟨m, hm', hf'.blocks (fun b hb' => hkeep b (hf'.lt hb') (by rw [h.cs k b hb']; omega) (by rw [h.cs k b hb']; omega) (by rw [h.cs k b hb']; omega) (by rw [h.cs k b hb']; omega) (by rw [h.cs k b hb']; omega))⟩
    · have hke : k = s.ls.length := by have : k < (s.ls ++ [v]).length := hk; simp at this; omega
      have := getD_app_at s.ls [v] 0
      rw [hke]
      rw [Nat.add_zero] at this
      rw [this]
      exact ⟨M, hM, hm.nils⟩
  · rw [e11]
    intro k hk
    rcases hm.b11 k hk with h1 | h1
    · rw [h11] at h1
      rw [hold k (h.i.lt k h1).2, recol_ne (by rw [h.c11 k h1]; omega)]; exact h.c11 k h1
    · unfold colR; rw [if_neg (by omega), if_pos hk]
  · rw [e12]
    intro k hk
    rcases hm.b12 k hk with h1 | h1
    · rw [h12] at h1
      rw [hold k (h.l.lt k h1).2, recol_ne (by rw [h.c12 k h1]; omega)]; exact h.c12 k h1
    · unfold colR; rw [if_neg (by omega), if_neg (fun e => hm.apart k e hk), if_pos hk]
  · rw [e13]
    intro k hk
    rcases hm.b13 k hk with h1 | h1
    · rw [h13] at h1
      rw [hold k (h.ls.lt k h1).2, recol_ne (by rw [h.c13 k h1]; omega)]; exact h.c13 k h1
    · unfold colR; rw [if_neg (by omega), if_neg (fun e => owns_apartT hm.i11 hm.i13 (by decide) hk e), if_neg (fun e => owns_apartT hm.i12 hm.i13 (by decide) hk e), if_pos hk]

end Go.Proofs.YtnjaofkieajnlaaGreat
