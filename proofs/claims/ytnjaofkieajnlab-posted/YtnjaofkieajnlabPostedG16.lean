/- Texts of the proof, part 17. -/
import Derived.Deep.RegionHeld3
import Derived.Test.YtnjaofkieajnlabPostedG10
import Derived.Test.YtnjaofkieajnlabPostedG11
import Derived.Test.YtnjaofkieajnlabPostedG14
import Derived.Test.YtnjaofkieajnlabPostedG15

/- Lists of pairs (of a thing of the program's and its like of the document's), of any sort, as the statements' world holds them. -/
namespace Go.Proofs.Ytnjaofkieajnlab
open Go.RowKit

/-- A sort of pairs: two blocks, all blocks that are a pair's own, and what it is that one lies in a world. -/
structure Kind (α : Type) where
  no : α
  p : α → Nat
  r : α → Nat
  fp : α → Nat → Prop
  lies : World → α → Prop
  lt : ∀ {w : World} {a : α} {k : Nat}, lies w a → fp a k → k < w.heap.size
  blocks : ∀ {w w' : World} {a : α}, lies w a → (∀ k, fp a k → w'.heap[k]? = w.heap[k]?) → lies w' a

/-- Pairs as values: two pointers each. -/
def Kind.vals {α : Type} (κ : Kind α) : List α → List Value
  | [] => []
  | b :: l => .pointer (some ⟨κ.p b, 0, none⟩) :: .pointer (some ⟨κ.r b, 0, none⟩) :: κ.vals l

theorem Kind.vals_append {α : Type} (κ : Kind α) (a b : List α) : κ.vals (a ++ b) = κ.vals a ++ κ.vals b := by
  induction a with
  | nil => rfl
  | cons f a ih => simp [Kind.vals, ih]

theorem Kind.vals_get {α : Type} (κ : Kind α) (l : List α) (k : Nat) (h : k < l.length) : (κ.vals l)[k * 2]? = some (.pointer (some ⟨κ.p (l.getD k κ.no), 0, none⟩)) ∧ (κ.vals l)[k * 2 + 1]? = some (.pointer (some ⟨κ.r (l.getD k κ.no), 0, none⟩)) := by
  induction l generalizing k with
  | nil => simp at h
  | cons f l ih =>
    cases k with
    | zero => exact ⟨rfl, rfl⟩
    | succ k =>
      have := ih k (by simpa using h)
      rw [show (k + 1) * 2 = k * 2 + 1 + 1 from by omega]
      exact this

theorem Kind.vals_set {α : Type} (κ : Kind α) (l : List α) (i : Nat) (b : α) (hp : κ.p b = κ.p (l.getD i κ.no)) (hr : κ.r b = κ.r (l.getD i κ.no)) : κ.vals (l.set i b) = κ.vals l := by
  induction l generalizing i with
  | nil => rfl
  | cons f l ih =>
    cases i with
    | zero =>
      have hp' : κ.p b = κ.p f := hp
      have hr' : κ.r b = κ.r f := hr
      simp [Kind.vals, hp', hr']
    | succ i => simp only [List.set_cons_succ, Kind.vals]; rw [ih i hp hr]

theorem getD_setA {α : Type} (l : List α) (d : α) (i j : Nat) (b : α) (hi : i < l.length) : (l.set i b).getD j d = if j = i then b else l.getD j d := by
  rw [List.getD_eq_getElem?_getD, List.getD_eq_getElem?_getD]
  by_cases e : j = i
  · subst e; rw [if_pos rfl, List.getElem?_set_self hi]; rfl
  · rw [if_neg e, List.getElem?_set_ne (fun h => e h.symm)]

theorem getD_snocA {α : Type} (l : List α) (d : α) (b : α) (j : Nat) : (l ++ [b]).getD j d = if j < l.length then l.getD j d else if j = l.length then b else d := by
  rw [List.getD_eq_getElem?_getD, List.getD_eq_getElem?_getD]
  by_cases h : j < l.length
  · rw [if_pos h, List.getElem?_append_left h]
  · rw [if_neg h, List.getElem?_append_right (by omega)]
    by_cases e : j = l.length
    · rw [if_pos e, e, Nat.sub_self]; rfl
    · rw [if_neg e, List.getElem?_eq_none (by simp; omega)]; rfl

/-- A list of pairs in a world. -/
structure PairsAt {α : Type} (κ : Kind α) (w : World) (t : TypeId) (v : Value) (l : List α) : Prop where
  own : w.ownsRow 0 t 2 v l.length (κ.vals l)
  each : ∀ i, i < l.length → κ.lies w (l.getD i κ.no)
  apart : ∀ i j, i < l.length → j < l.length → i ≠ j → ∀ k, κ.fp (l.getD i κ.no) k → ¬ κ.fp (l.getD j κ.no) k
  list : ∀ k, v.ownBlock = some k → ∀ i, i < l.length → ¬ κ.fp (l.getD i κ.no) k

/-- The blocks of a list of pairs. -/
def pfp {α : Type} (κ : Kind α) (v : Value) (l : List α) (k : Nat) : Prop := v.ownBlock = some k ∨ ∃ i, i < l.length ∧ κ.fp (l.getD i κ.no) k

namespace PairsAt
variable {α : Type} {κ : Kind α} {w w' : World} {t : TypeId} {v : Value} {l : List α}

theorem empty (κ : Kind α) (w : World) (t : TypeId) : PairsAt κ w t (.slice none 0 0) [] :=
  ⟨World.ownsRow_nil _ _ _ _, fun i hi => by simp at hi, fun i j hi => by simp at hi, fun k hk => by simp [Value.ownBlock] at hk⟩

theorem lt (h : PairsAt κ w t v l) {k : Nat} (hk : pfp κ v l k) : k < w.heap.size := by
  rcases hk with hk | ⟨i, hi, hk⟩
  · exact (h.own.lt k hk).2
  · exact κ.lt (h.each i hi) hk

theorem blocks (h : PairsAt κ w t v l) (hb : ∀ k, pfp κ v l k → w'.heap[k]? = w.heap[k]?) : PairsAt κ w' t v l :=
  ⟨owns_of_block h.own (fun k hk => hb k (Or.inl hk)), fun i hi => κ.blocks (h.each i hi) (fun k hk => hb k (Or.inr ⟨i, hi, hk⟩)), h.apart, h.list⟩

theorem on (h : PairsAt κ w t v l) (hb : Below w.heap.size w w') : PairsAt κ w' t v l := h.blocks (fun k hk => hb.block k (h.lt hk))

/-- A pair's cells in the list. -/
theorem cells (h : PairsAt κ w t v l) {j : Nat} (hj : j < l.length) : ∃ g cap, v = .slice (some ⟨g, 0, none⟩) l.length cap ∧ g < w.heap.size ∧ w.cell? ⟨g, j * 2, none⟩ = some (.pointer (some ⟨κ.p (l.getD j κ.no), 0, none⟩)) ∧ w.cell? ⟨g, j * 2 + 1, none⟩ = some (.pointer (some ⟨κ.r (l.getD j κ.no), 0, none⟩)) := by
  rcases h.own.2 with ⟨_, hn⟩ | ⟨g, cap, cur, he, _, hg, hc, _, _, ht⟩
  · omega
  · refine ⟨g, cap, he, (Array.getElem?_eq_some_iff.1 hg).1, ?_⟩
    rw [cell_of_row _ _ _ _ _ _ hg, cell_of_row _ _ _ _ _ _ hg]
    obtain ⟨h1, h2⟩ := κ.vals_get l j hj
    rw [← ht, List.getElem?_take, if_pos (by omega)] at h1
    rw [← ht, List.getElem?_take, if_pos (by omega)] at h2
    exact ⟨by simpa using h1, by simpa using h2⟩

theorem shape0 (h : PairsAt κ w t v l) (hl : l.length = 0) : ∃ ao cap, v = .slice ao 0 cap := by
  rcases h.own.2 with ⟨h, _⟩ | ⟨g, cap, cur, h, _⟩
  · exact ⟨none, 0, h⟩
  · exact ⟨_, cap, by rw [hl] at h; exact h⟩

/-- One pair has turned. -/
theorem update (h : PairsAt κ w t v l) {i : Nat} (hi : i < l.length) {b : α} (hc : Chg (κ.fp (l.getD i κ.no)) w w') (hp : κ.lies w' b) (e1 : κ.p b = κ.p (l.getD i κ.no)) (e2 : κ.r b = κ.r (l.getD i κ.no)) (hn : ∀ k, κ.fp b k → κ.fp (l.getD i κ.no) k ∨ w.heap.size ≤ k) :
    PairsAt κ w' t v (l.set i b) ∧ Chg (pfp κ v l) w w' ∧ (∀ k, pfp κ v (l.set i b) k → pfp κ v l k ∨ w.heap.size ≤ k) := by
  refine ⟨⟨?_, ?_, ?_, ?_⟩, hc.mono (fun k _ hk => Or.inr ⟨i, hi, hk⟩), ?_⟩
  · rw [List.length_set, κ.vals_set l i b e1 e2]
    exact owns_of_block h.own (fun k hk => hc.block k (h.own.lt k hk).2 (h.list k hk i hi))
  · intro j hj
    rw [List.length_set] at hj
    rw [getD_setA l κ.no i j b hi]
    by_cases e : j = i
    · rw [if_pos e]; exact hp
    · rw [if_neg e]
      exact κ.blocks (h.each j hj) (fun k hk => hc.block k (κ.lt (h.each j hj) hk) (fun x => h.apart i j hi hj (fun q => e q.symm) k x hk))
  · intro a c ha hcc hne k hk
    rw [List.length_set] at ha hcc
    rw [getD_setA l κ.no i a b hi] at hk
    rw [getD_setA l κ.no i c b hi]
    by_cases ea : a = i
    · rw [if_pos ea] at hk
      have ec : c ≠ i := fun e => hne (ea.trans e.symm)
      rw [if_neg ec]
      rcases hn k hk with h1 | h1
      · exact h.apart i c hi hcc (fun e => ec e.symm) k h1
      · intro h2
        have := κ.lt (h.each c hcc) h2
        omega
    · rw [if_neg ea] at hk
      by_cases ec : c = i
      · rw [if_pos ec]
        intro h2
        rcases hn k h2 with h1 | h1
        · exact h.apart a i ha hi ea k hk h1
        · have := κ.lt (h.each a ha) hk
          omega
      · rw [if_neg ec]; exact h.apart a c ha hcc hne k hk
  · intro k hk j hj hf
    rw [List.length_set] at hj
    rw [getD_setA l κ.no i j b hi] at hf
    by_cases e : j = i
    · rw [if_pos e] at hf
      rcases hn k hf with h1 | h1
      · exact h.list k hk i hi h1
      · have := (h.own.lt k hk).2
        omega
    · rw [if_neg e] at hf; exact h.list k hk j hj hf
  · rintro k (hk | ⟨j, hj, hf⟩)
    · exact Or.inl (Or.inl hk)
    · rw [List.length_set] at hj
      rw [getD_setA l κ.no i j b hi] at hf
      by_cases e : j = i
      · rw [if_pos e] at hf
        rcases hn k hf with h1 | h1
        · exact Or.inl (Or.inr ⟨i, hi, h1⟩)
        · exact Or.inr h1
      · rw [if_neg e] at hf; exact Or.inl (Or.inr ⟨j, hj, hf⟩)

/-- One pair more. -/
theorem snoc (h : PairsAt κ w t v l) {b : α} {g cap n : Nat} (hp : κ.lies w b) (hd : ∀ k, κ.fp b k → ¬ pfp κ v l k) (hg : w.grownBy w' v.ownBlock) (hown : w'.ownsRow 0 t 2 (.slice (some ⟨g, 0, none⟩) n cap) n (κ.vals (l ++ [b]))) (hl : n = l.length + 1) (hat : v.ownBlock = some g ∨ w.heap.size ≤ g) :
    PairsAt κ w' t (.slice (some ⟨g, 0, none⟩) n cap) (l ++ [b]) ∧ (∀ k, pfp κ (.slice (some ⟨g, 0, none⟩) n cap) (l ++ [b]) k → pfp κ v l k ∨ κ.fp b k ∨ w.heap.size ≤ k) := by
  subst hl
  have hkeep : ∀ k, k < w.heap.size → v.ownBlock ≠ some k → w'.heap[k]? = w.heap[k]? := fun k hk h1 => hg.block k hk (fun e => h1 e.symm)
  refine ⟨⟨?_, ?_, ?_, ?_⟩, ?_⟩
  · rw [List.length_append]; exact hown
  · intro i hi
    rw [List.length_append] at hi
    rw [getD_snocA]
    by_cases e : i < l.length
    · rw [if_pos e]
      exact κ.blocks (h.each i e) (fun k hk => hkeep k (κ.lt (h.each i e) hk) (fun x => h.list k x i e hk))
    · rw [if_neg e, if_pos (by simp at hi; omega)]
      exact κ.blocks hp (fun k hk => hkeep k (κ.lt hp hk) (fun x => hd k hk (Or.inl x)))
  · intro i j hi hj hne k hk
    rw [List.length_append] at hi hj
    rw [getD_snocA] at hk ⊢
    simp at hi hj
    by_cases ei : i < l.length
    · rw [if_pos ei] at hk
      by_cases ej : j < l.length
      · rw [if_pos ej]; exact h.apart i j ei ej hne k hk
      · rw [if_neg ej, if_pos (by omega)]; exact fun hb => hd k hb (Or.inr ⟨i, ei, hk⟩)
    · rw [if_neg ei, if_pos (by omega)] at hk
      have ej : j < l.length := by omega
      rw [if_pos ej]
      exact fun h2 => hd k hk (Or.inr ⟨j, ej, h2⟩)
  · intro k hk i hi hf
    have hgk : g = k := by simpa [Value.ownBlock] using hk
    subst hgk
    rw [List.length_append] at hi
    rw [getD_snocA] at hf
    by_cases ei : i < l.length
    · rw [if_pos ei] at hf
      rcases hat with e | e
      · exact h.list g e i ei hf
      · have := κ.lt (h.each i ei) hf
        omega
    · rw [if_neg ei, if_pos (by simp at hi; omega)] at hf
      rcases hat with e | e
      · exact hd g hf (Or.inl e)
      · have := κ.lt hp hf
        omega
  · rintro k (hk | ⟨i, hi, hf⟩)
    · have hgk : g = k := by simpa [Value.ownBlock] using hk
      subst hgk
      rcases hat with e | e
      · exact Or.inl (Or.inl e)
      · exact Or.inr (Or.inr e)
    · rw [List.length_append] at hi
      rw [getD_snocA] at hf
      by_cases ei : i < l.length
      · rw [if_pos ei] at hf; exact Or.inl (Or.inr ⟨i, ei, hf⟩)
      · rw [if_neg ei, if_pos (by simp at hi; omega)] at hf; exact Or.inr (Or.inl hf)

end PairsAt

end Go.Proofs.Ytnjaofkieajnlab

/- The document's own inbox: how it lies in memory; Lacks. -/
namespace Go.Proofs.Ytnjaofkieajnlab
open Go.RowKit

/-- Where a part's catcher lies. -/
structure PD where
  r : Nat
  b : Nat
  av : Value
  pv : Value

def PD.no : PD := ⟨0, 0, .slice none 0 0, .slice none 0 0⟩

def PD.fp (d : PD) (c : CS) (k : Nat) : Prop := fpD d.r d.b d.av d.pv c k

def ptrsV (l : List PD) : List Value := l.map (fun d => .pointer (some ⟨d.r, 0, none⟩))

def fpP (hv : Value) (l : List PD) (cs : List CS) (k : Nat) : Prop := hv.ownBlock = some k ∨ ∃ i, i < l.length ∧ (l.getD i PD.no).fp (cs.getD i CS.zero) k

namespace PartsAt
variable {w w' : World} {hv : Value} {l : List PD} {cs : List CS}

end PartsAt

def fpI (x : Nat) (hv : Value) (l : List PD) (s : IS) (k : Nat) : Prop := k = x ∨ fpP hv l s.parts k

namespace DocInbox
variable {w w' : World} {x : Nat} {hv : Value} {l : List PD} {s : IS}

end DocInbox

theorem lackTo_le {s : IS} (h : ISok s) (i : Nat) (hi : i ≤ s.parts.length) (hne : s.parts ≠ []) : lackTo s i ≤ i * 20 := by
  induction i with
  | zero => exact Nat.zero_le _
  | succ i ih =>
    have h1 := ih (by omega)
    have hK := (h.spec hne).hK
    have h2 : lackC s.K (s.parts.getD i CS.zero) ≤ 20 := by
      unfold lackC
      split
      · rename_i hk
        have := ((h.part (i := i) (by omega)).2 hk).1
        have := openK_le (s.parts.getD i CS.zero).kn (s.parts.getD i CS.zero).K
        omega
      · omega
    show lackTo s i + lackC s.K (s.parts.getD i CS.zero) ≤ _
    omega

end Go.Proofs.Ytnjaofkieajnlab

/- The document's own inbox: Take, of what is no sheet. -/
namespace Go.Proofs.Ytnjaofkieajnlab
open Go.RowKit

end Go.Proofs.Ytnjaofkieajnlab

/- The document's own inbox: Take, of a further sheet. -/
namespace Go.Proofs.Ytnjaofkieajnlab
open Go.RowKit

theorem ptrsV_set (l : List PD) (i : Nat) (d : PD) (h : d.r = (l.getD i PD.no).r) : ptrsV (l.set i d) = ptrsV l := by
  unfold ptrsV
  rw [List.map_set]
  apply List.ext_getElem?
  intro j
  by_cases e : i = j
  · subst e
    by_cases hi : i < l.length
    · rw [List.getElem?_set_self (by simpa using hi), List.getElem?_map, List.getElem?_eq_getElem hi, h, List.getD_eq_getElem?_getD, List.getElem?_eq_getElem hi]; rfl
    · rw [List.getElem?_eq_none (by simp; omega), List.getElem?_eq_none (by simp; omega)]
  · rw [List.getElem?_set_ne e]

theorem set6_far (w : World) (x : Nat) (a0 a1 a2 a3 a4 a5 : Value) (k : Nat) (hk : k ≠ x) : ((((((w.setCell ⟨x, 0, none⟩ a0).setCell ⟨x, 1, none⟩ a1).setCell ⟨x, 2, none⟩ a2).setCell ⟨x, 3, none⟩ a3).setCell ⟨x, 4, none⟩ a4).setCell ⟨x, 5, none⟩ a5).heap[k]? = w.heap[k]? := by
  rw [heap_setCell_other _ _ _ _ hk, heap_setCell_other _ _ _ _ hk, heap_setCell_other _ _ _ _ hk, heap_setCell_other _ _ _ _ hk, heap_setCell_other _ _ _ _ hk, heap_setCell_other _ _ _ _ hk]

theorem takeE_main {s : IS} {t : ByteArray} (h : headOk t) (hp : PacketOk (tQ t)) (hs : s.parts = [] ∨ (rK (tQ t) = s.K ∧ rM (tQ t) = s.M ∧ rO (tQ t) = s.O ∧ rS (tQ t) = s.S ∧ rZ (tQ t) = s.z ∧ tN t = s.parts.length)) : takeE s t = hearE ((partsOf s t).getD (tP t) CS.zero) (tQ t) := by
  unfold takeE
  rw [if_neg (fun x => by
    rcases x with x | x
    · rw [(headSb_iff t).2 h] at x; cases x
    · rw [(packetB_iff _).2 hp] at x; cases x), if_neg (fun ⟨a, b⟩ => by
    rcases hs with hs | hs
    · exact a hs
    · rw [(sameI_iff s t).2 hs] at b; cases b)]

end Go.Proofs.Ytnjaofkieajnlab

/- The program's inbox: Take whole, and as it is called; Open. -/
namespace Go.Proofs.Ytnjaofkieajnlab
open Go.RowKit

/-- The program's inbox goes by what was taken. -/
def ProgInb (w : World) (p : Nat) (tt : TypeId) (s : IS) : Prop := InbAt w p tt s.parts.length s.K s.M s.O s.S s.z s.parts.length (fun j => (s.parts.getD j CS.zero).kn)

set_option maxRecDepth 100000 in
set_option maxHeartbeats 4000000 in
theorem ltake_no (x : Value) (t : ByteArray) (w : World) (ht : ¬ (headOk t ∧ PacketOk (tQ t))) :
    Calls Try.prog 38 #[x, .string t] w fun e w' => e = .returned (.int .i64 6) ∧ Below w.heap.size w w' := by
  have hrd := fun W => lread_not t W ht
  clear ht
  go_enter Try.func38, Try.ntmps38
  go_wp2_with fail
  refine (hrd _).mono ?_
  rintro e w1 ⟨rfl, hb1⟩
  have hbf := hb1.alloc hb1.size (.cells sh0 95)
  go_wp2_with fail
  go_ret
  exact ⟨rfl, hbf⟩

set_option maxRecDepth 100000 in
set_option maxHeartbeats 4000000 in
theorem ltake_by (c : Nat) (f : Nat) (hf : f = if c = 0 then 59 else 60) (p : Nat) (t : ByteArray) (P : Int → World → World → Prop) (n : Int) (w : World) (hh : headOk t) (ht : PacketOk (tQ t)) (hcell : ∀ w1, Below w.heap.size w w1 → w1.cell? ⟨p, 0, none⟩ = some (.int .i64 (c : Int)))
    (hdo : ∀ w1, Below w.heap.size w w1 → Calls Try.prog f #[.pointer (some ⟨p, 0, none⟩), .agg (shC (tP t : Int) (tN t : Int) (rK (tQ t)) (rM (tQ t)) (rO (tQ t)) (rS (tQ t)) (rZ (tQ t)) (rI (tQ t)) (rQ (tQ t)))] w1 fun e w' => e = .returned (.int .i64 n) ∧ P n w1 w') :
    Calls Try.prog 38 #[.pointer (some ⟨p, 0, none⟩), .string t] w fun e w' => e = .returned (.int .i64 n) ∧ ∃ w1, Below w.heap.size w w1 ∧ P n w1 w' := by
  have hrd := fun W => lread_yes t W hh ht
  clear ht hh
  generalize (rK (tQ t) : Int) = K at *
  generalize (rM (tQ t) : Int) = M at *
  generalize (rO (tQ t) : Int) = O at *
  generalize (rS (tQ t) : Int) = S at *
  generalize (rZ (tQ t) : Int) = z at *
  generalize (rI (tQ t) : Int) = i at *
  generalize rQ (tQ t) = q at *
  generalize (tP t : Int) = a at *
  generalize (tN t : Int) = c' at *
  by_cases h0 : c = 0
  · rw [if_pos h0] at hf
    subst hf
    have hb : ((c : Int) == 0) = true := by rw [h0]; rfl
    clear h0
    go_enter Try.func38, Try.ntmps38
    go_wp2_with fail
    refine (hrd _).mono ?_
    rintro e w1 ⟨rfl, hb1⟩
    have hbf := hb1.alloc hb1.size (.cells (shC a c' K M O S z i q) 95)
    have c0 := hcell _ hbf
    clear hcell hrd
    go_wp2_with fail
    refine (hdo _ hbf).mono ?_
    rintro e w2 ⟨rfl, hP⟩
    clear c0 hdo
    have HE : ∃ w1, Below w.heap.size w w1 ∧ P n w1 w2 := ⟨_, hbf, hP⟩
    clear hbf hP
    go_wp2_with fail
    go_ret
    exact ⟨rfl, HE⟩
  · rw [if_neg h0] at hf
    subst hf
    have hb : ((c : Int) == 0) = false := by simpa using h0
    clear h0
    go_enter Try.func38, Try.ntmps38
    go_wp2_with fail
    refine (hrd _).mono ?_
    rintro e w1 ⟨rfl, hb1⟩
    have hbf := hb1.alloc hb1.size (.cells (shC a c' K M O S z i q) 95)
    have c0 := hcell _ hbf
    clear hcell hrd
    go_wp2_with fail
    refine (hdo _ hbf).mono ?_
    rintro e w2 ⟨rfl, hP⟩
    clear c0 hdo
    have HE : ∃ w1, Below w.heap.size w w1 ∧ P n w1 w2 := ⟨_, hbf, hP⟩
    clear hbf hP
    go_wp2_with fail
    go_ret
    exact ⟨rfl, HE⟩

theorem ProgInb.on {w w' : World} {p : Nat} {tt : TypeId} {s : IS} (h : ProgInb w p tt s) (hb : Below w.heap.size w w') : ProgInb w' p tt s := InbAt.on h (Nat.le_refl _) hb

theorem ProgInb.block {w w' : World} {p : Nat} {tt : TypeId} {s : IS} (h : ProgInb w p tt s) (hb : w'.heap[p]? = w.heap[p]?) : ProgInb w' p tt s := InbAt.block h hb

/-- What a part holds behind a sheet. -/
theorem hear_kn {t : ByteArray} {c : CS} (h0 : hearE c (tQ t) = 0) : (hearS c (tQ t)).kn = putK c.kn (ofs (rK (tQ t)) (rM (tQ t)) (rO (tQ t)) (rS (tQ t)) (rI (tQ t))) (rQ (tQ t)) := by
  unfold hearS
  rw [if_pos h0]

theorem getD_set {α : Type} (l : List α) (a : Nat) (v d : α) (j : Nat) (ha : a < l.length) : (l.set a v).getD j d = if j = a then v else l.getD j d := by
  rw [List.getD_eq_getElem?_getD, List.getD_eq_getElem?_getD]
  by_cases e : j = a
  · subst e; rw [if_pos rfl, List.getElem?_set_self ha]; rfl
  · rw [if_neg e, List.getElem?_set_ne (fun x => e x.symm)]

set_option maxHeartbeats 4000000 in
theorem otake_any (p : Nat) (tt : TypeId) (s : IS) (t : ByteArray) (w : World) (hc : ProgInb w p tt s) (hs : ISok s) :
    Calls Try.prog 38 #[.pointer (some ⟨p, 0, none⟩), .string t] w fun e w' => e = .returned (.int .i64 (takeE s t)) ∧ ProgInb w' p tt (takeS s t) ∧ Chg (fun k => k = p) w w' := by
  have hkeep : ∀ n, takeE s t = n → n ≠ 0 → ∀ w', Below w.heap.size w w' → ProgInb w' p tt (takeS s t) ∧ Chg (fun k => k = p) w w' := fun n hn h0 w' hb => by
    have hS : takeS s t = s := by unfold takeS; rw [hn, if_neg h0]
    rw [hS]
    exact ⟨hc.on hb, Chg.of_below hb _⟩
  by_cases hhp : headOk t ∧ PacketOk (tQ t)
  · obtain ⟨hh, hp⟩ := hhp
    obtain ⟨a1, a2, a3, a4, a5, a6, a7⟩ := hp.has
    obtain ⟨_, _, n1, n2, n3⟩ := id hh
    by_cases hn : s.parts = []
    · have hz := hs.none hn
      subst hz
      have hpo : partsOf IS.zero t = List.replicate (tN t) CS.zero := by unfold partsOf; rw [if_pos hn]
      have hg0 : (List.replicate (tN t) CS.zero).getD (tP t) CS.zero = CS.zero := by rw [List.getD_eq_getElem?_getD, List.getElem?_replicate]; split <;> rfl
      have he := takeE_main hh hp (Or.inl rfl : IS.zero.parts = [] ∨ _)
      rw [hpo, hg0] at he
      have he2 : hearE CS.zero (tQ t) = putE (left kn0 (ofs (rK (tQ t)) (rM (tQ t)) (rO (tQ t)) (rS (tQ t)) (rI (tQ t))) (rQ (tQ t))) (rZ (tQ t)) := hearE_put hp (fun e => by cases e)
      have hc0 : InbAt w p tt 0 0 0 0 0 0 0 (fun _ => kn0) := InbAt.congr hc (fun j hj => absurd hj (Nat.not_lt_zero _))
      refine (ltake_by 0 _ rfl p t (fun n w1 w' => (n = 0 → InbAt w' p tt (tN t) (rK (tQ t)) (rM (tQ t)) (rO (tQ t)) (rS (tQ t)) (rZ (tQ t)) (tN t) (fun j => if j = tP t then putK kn0 (ofs (rK (tQ t)) (rM (tQ t)) (rO (tQ t)) (rS (tQ t)) (rI (tQ t))) (rQ (tQ t)) else kn0)) ∧ (n ≠ 0 → Below w1.heap.size w1 w') ∧ Chg (fun k => k = p) w1 w') (takeE IS.zero t) w hh hp (fun w1 hb => (hc0.on (Nat.le_refl _) hb).head.1) (fun w1 hb => ?_)).mono ?_
      · rw [he, he2]
        exact lfirst_any p tt (tP t) (tN t) (rK (tQ t)) (rM (tQ t)) (rO (tQ t)) (rS (tQ t)) (rZ (tQ t)) (rI (tQ t)) (rQ (tQ t)) w1 a1 a2 a3 a4 a5 n3 n2 a6 a7 (hc0.on (Nat.le_refl _) hb)
      · rintro e w' ⟨hre, w1, hb, h1, h2, h3⟩
        refine ⟨hre, ?_⟩
        by_cases h0 : takeE IS.zero t = 0
        · refine ⟨?_, chg_below hb h3⟩
          have hS : takeS IS.zero t = ⟨rK (tQ t), rM (tQ t), rO (tQ t), rS (tQ t), rZ (tQ t), (List.replicate (tN t) CS.zero).set (tP t) (hearS CS.zero (tQ t))⟩ := by
            unfold takeS
            rw [if_pos h0, hpo, hg0]
          rw [hS]
          unfold ProgInb
          show InbAt w' p tt ((List.replicate (tN t) CS.zero).set (tP t) (hearS CS.zero (tQ t))).length _ _ _ _ _ ((List.replicate (tN t) CS.zero).set (tP t) (hearS CS.zero (tQ t))).length (fun j => (((List.replicate (tN t) CS.zero).set (tP t) (hearS CS.zero (tQ t))).getD j CS.zero).kn)
          rw [List.length_set, List.length_replicate]
          refine (h1 h0).congr (fun j hj => ?_)
          rw [getD_set _ _ _ _ _ (by rw [List.length_replicate]; exact n3)]
          by_cases e : j = tP t
          · rw [if_pos e, if_pos e, hear_kn (by rw [← he]; exact h0)]; rfl
          · rw [if_neg e, if_neg e, List.getD_eq_getElem?_getD, List.getElem?_replicate]
            split <;> rfl
        · exact hkeep _ rfl h0 w' (hb.trans ((h2 h0).mono hb.size))
    · have hlen : s.parts.length ≠ 0 := fun e => hn (List.eq_nil_of_length_eq_zero e)
      by_cases hsm : rK (tQ t) = s.K ∧ rM (tQ t) = s.M ∧ rO (tQ t) = s.O ∧ rS (tQ t) = s.S ∧ rZ (tQ t) = s.z ∧ tN t = s.parts.length
      · have he := takeE_main hh hp (Or.inr hsm)
        have hpo : partsOf s t = s.parts := by unfold partsOf; rw [if_neg hn]
        rw [hpo] at he
        obtain ⟨e1, e2, e3, e4, e5, e6⟩ := hsm
        have hl20 := hs.len
        have hpl : tP t < s.parts.length := by omega
        obtain ⟨hcs, hpf⟩ := hs.part hpl
        have hsame : (s.parts.getD (tP t) CS.zero).tk = true → (rK (tQ t) = (s.parts.getD (tP t) CS.zero).K ∧ rM (tQ t) = (s.parts.getD (tP t) CS.zero).M ∧ rO (tQ t) = (s.parts.getD (tP t) CS.zero).O ∧ rS (tQ t) = (s.parts.getD (tP t) CS.zero).S ∧ rZ (tQ t) = (s.parts.getD (tP t) CS.zero).z) := fun hk => by
          obtain ⟨f1, f2, f3, f4, f5⟩ := hpf hk
          exact ⟨by rw [f1, e1], by rw [f2, e2], by rw [f3, e3], by rw [f4, e4], by rw [f5, e5]⟩
        have he2 : hearE (s.parts.getD (tP t) CS.zero) (tQ t) = putE (left (s.parts.getD (tP t) CS.zero).kn (ofs (rK (tQ t)) (rM (tQ t)) (rO (tQ t)) (rS (tQ t)) (rI (tQ t))) (rQ (tQ t))) (rZ (tQ t)) := hearE_put hp hsame
        have hok := (hcs.base hsame).1.ok
        have hc2 : InbAt w p tt (tN t) (rK (tQ t)) (rM (tQ t)) (rO (tQ t)) (rS (tQ t)) (rZ (tQ t)) (tN t) (fun j => (s.parts.getD j CS.zero).kn) := by
          rw [e1, e2, e3, e4, e5, e6]; exact hc
        refine (ltake_by (tN t) 60 (by rw [if_neg (by omega)]) p t (fun n w1 w' => InbAt w' p tt (tN t) (rK (tQ t)) (rM (tQ t)) (rO (tQ t)) (rS (tQ t)) (rZ (tQ t)) (tN t) (fun j => if j = tP t then putK (s.parts.getD (tP t) CS.zero).kn (ofs (rK (tQ t)) (rM (tQ t)) (rO (tQ t)) (rS (tQ t)) (rI (tQ t))) (rQ (tQ t)) else (s.parts.getD j CS.zero).kn) ∧ Chg (fun k => k = p) w1 w') (takeE s t) w hh hp (fun w1 hb => (hc2.on (Nat.le_refl _) hb).head.1) (fun w1 hb => ?_)).mono ?_
        · rw [he, he2]
          exact lnext_put p tt (tN t) (rK (tQ t)) (rM (tQ t)) (rO (tQ t)) (rS (tQ t)) (rZ (tQ t)) (tN t) (fun j => (s.parts.getD j CS.zero).kn) (tP t) (rI (tQ t)) (rQ (tQ t)) w1 n3 (by omega) a1.2 a2.2 hok a5.2 a6 a7 (hc2.on (Nat.le_refl _) hb)
        · rintro e w' ⟨hre, w1, hb, h1, h3⟩
          refine ⟨hre, ?_, chg_below hb h3⟩
          by_cases h0 : takeE s t = 0
          · have hS : takeS s t = ⟨rK (tQ t), rM (tQ t), rO (tQ t), rS (tQ t), rZ (tQ t), s.parts.set (tP t) (hearS (s.parts.getD (tP t) CS.zero) (tQ t))⟩ := by
              unfold takeS
              rw [if_pos h0, hpo]
            rw [hS]
            unfold ProgInb
            show InbAt w' p tt (s.parts.set (tP t) (hearS (s.parts.getD (tP t) CS.zero) (tQ t))).length _ _ _ _ _ (s.parts.set (tP t) (hearS (s.parts.getD (tP t) CS.zero) (tQ t))).length (fun j => ((s.parts.set (tP t) (hearS (s.parts.getD (tP t) CS.zero) (tQ t))).getD j CS.zero).kn)
            rw [List.length_set, ← e6]
            refine h1.congr (fun j hj => ?_)
            rw [getD_set _ _ _ _ _ hpl]
            by_cases e : j = tP t
            · rw [if_pos e, if_pos e, hear_kn (by rw [← he]; exact h0)]
            · rw [if_neg e, if_neg e]
          · have hS : takeS s t = s := by unfold takeS; rw [if_neg h0]
            rw [hS]
            rcases putE_cases (hearL (s.parts.getD (tP t) CS.zero) (tQ t)) (rZ (tQ t)) with ⟨hx, _⟩ | ⟨_, hl, _⟩
            · exact absurd (by rw [he, he2]; exact hx) h0
            · have h4 : InbAt w' p tt (tN t) (rK (tQ t)) (rM (tQ t)) (rO (tQ t)) (rS (tQ t)) (rZ (tQ t)) (tN t) (fun j => (s.parts.getD j CS.zero).kn) := h1.congr (fun j _ => by
                by_cases e : j = tP t
                · rw [if_pos e, putK_same hl, e]
                · rw [if_neg e])
              rw [e1, e2, e3, e4, e5, e6] at h4
              exact h4
      · have he : takeE s t = 7 := by
          unfold takeE
          rw [if_neg (fun y => by
            rcases y with y | y
            · rw [(headSb_iff t).2 hh] at y; cases y
            · rw [(packetB_iff _).2 hp] at y; cases y), if_pos ⟨hn, by
            cases hy : sameI s t with
            | false => rfl
            | true => exact absurd ((sameI_iff s t).1 hy) hsm⟩]
        refine (ltake_by s.parts.length 60 (by rw [if_neg hlen]) p t (fun _ w1 w' => Below w1.heap.size w1 w') 7 w hh hp (fun w1 hb => (InbAt.on hc (Nat.le_refl _) hb).head.1) (fun w1 hb => ?_)).mono ?_
        · exact lnext_other p tt _ _ _ _ _ _ _ _ (tP t) (tN t) (rK (tQ t)) (rM (tQ t)) (rO (tQ t)) (rS (tQ t)) (rZ (tQ t)) (rI (tQ t)) (rQ (tQ t)) w1 (InbAt.on hc (Nat.le_refl _) hb) hsm
        · rintro e w' ⟨hre, w1, hb, hb2⟩
          exact ⟨by rw [he]; exact hre, hkeep 7 he (by decide) w' (hb.trans (hb2.mono hb.size))⟩
  · have he : takeE s t = 6 := by
      unfold takeE
      rw [if_pos]
      cases hy : headSb t with
      | false => exact Or.inl rfl
      | true =>
        right
        cases hz : packetB (tQ t) with
        | false => rfl
        | true => exact absurd ⟨(headSb_iff t).1 hy, (packetB_iff _).1 hz⟩ hhp
    exact (ltake_no _ t w hhp).mono fun e w' ⟨h1, h2⟩ => ⟨by rw [he]; exact h1, hkeep 6 he (by decide) w' h2⟩

/-- A call of the program's inbox is that of what lies in it. -/
theorem take_by (p : Nat) (t : ByteArray) (n : Int) (P : World → Prop) (w : World) (h : Calls Try.prog 38 #[.pointer (some ⟨p, 0, none⟩), .string t] w fun e w' => e = .returned (.int .i64 n) ∧ P w') :
    Calls Try.prog 25 #[.pointer (some ⟨p, 0, none⟩), .string t] w fun e w' => e = .returned (.int .i64 n) ∧ P w' := by
  go_enter Try.func25, Try.ntmps25
  go_wp2_with fail
  refine h.mono ?_
  rintro e w1 ⟨rfl, hP⟩
  go_wp2_with fail
  go_ret
  exact ⟨rfl, hP⟩

theorem lacks_by (p : Nat) (n : Int) (P : World → Prop) (w : World) (h : Calls Try.prog 40 #[.pointer (some ⟨p, 0, none⟩)] w fun e w' => e = .returned (.int .i64 n) ∧ P w') :
    Calls Try.prog 27 #[.pointer (some ⟨p, 0, none⟩)] w fun e w' => e = .returned (.int .i64 n) ∧ P w' := by
  go_enter Try.func27, Try.ntmps27
  go_wp2_with fail
  refine h.mono ?_
  rintro e w1 ⟨rfl, hP⟩
  go_wp2_with fail
  go_ret
  exact ⟨rfl, hP⟩

theorem whole_by (p : Nat) (s : ByteArray) (n : Int) (P : World → Prop) (w : World) (h : Calls Try.prog 39 #[.pointer (some ⟨p, 0, none⟩)] w fun e w' => e = .returned (.tuple #[.string s, .int .i64 n]) ∧ P w') :
    Calls Try.prog 26 #[.pointer (some ⟨p, 0, none⟩)] w fun e w' => e = .returned (.tuple #[.string s, .int .i64 n]) ∧ P w' := by
  go_enter Try.func26, Try.ntmps26
  go_wp2_with fail
  refine h.mono ?_
  rintro e w1 ⟨rfl, hP⟩
  go_wp2_with fail
  go_ret2
  exact ⟨rfl, hP⟩

noncomputable def builtRI (parts : Array (Nat × Value)) : Sem Value := Instr.build 74 parts

theorem build_maskRI (parts : Array (Nat × Value)) : Instr.build 74 parts = builtRI parts := rfl

attribute [local go_sem ↓] build_maskRI

set_option maxRecDepth 100000 in
set_option maxHeartbeats 4000000 in
theorem open_any (w : World) :
    Calls Try.prog 24 #[] w fun e w' => ∃ p, e = .returned (.pointer (some ⟨p, 0, none⟩)) ∧ ProgInb w' p 74 IS.zero ∧ w.heap.size ≤ p ∧ Below w.heap.size w w' := by
  have hb : ∀ w, (builtRI #[]).run Try.prog w = .ok (.agg (inbL 0 0 0 0 0 0 0 (fun _ => kn0)).toArray) w := fun w => run_build (P := Try.prog) w 74 #[] _ built_noinb
  have hat : ProgInb (w.alloc (.cells (inbL 0 0 0 0 0 0 0 (fun _ => kn0)).toArray 74)) w.heap.size 74 IS.zero := InbAt.congr (inb_new w 74 0 0 0 0 0 0 0 (fun _ => kn0)) (fun j hj => absurd hj (Nat.not_lt_zero _))
  generalize inbL 0 0 0 0 0 0 0 (fun _ => kn0) = cs at *
  go_enter Try.func24, Try.ntmps24
  go_wp2_with fail
  go_ret
  exact ⟨_, rfl, hat, Nat.le_refl _, (Below.refl _ _).alloc (Nat.le_refl _) _⟩

end Go.Proofs.Ytnjaofkieajnlab

/- The program's data of an object. -/
namespace Go.Proofs.Ytnjaofkieajnlab
open Go.RowKit

/-- How long a slice is. -/
def lenS (v : Value) : Nat := match v with
  | .slice _ n _ => n
  | _ => 0

/-- Some of a row's bytes, as a text. -/
theorem conv_part (B : ByteArray) (g n c base m k c2 : Nat) (w : World) (h : w.ownsRow base 5 1 (.slice (some ⟨g, 0, none⟩) n c) n (bytesV B)) (hm : m + k ≤ B.size) : (convert 55 9 (.slice (some ⟨g, m, none⟩) k c2)).run Try.prog w = .ok (.string (B.extract m (m + k))) w := by
  have hcell := h.cells (g := g) rfl
  have hsz : (B.extract m (m + k)).size = k := by rw [ByteArray.size_extract]; omega
  have hcells : ∀ j, j < k → w.cell? ⟨g, m + j, none⟩ = some (.int .u8 ((numsB (B.extract m (m + k))).getD j 0)) := fun j hj => by
    rw [numsB_getD]
    have h1 := hcell (m + j) _ (bytesV_getElem B (m + j) (by omega))
    rw [Addr.add_mid, Nat.zero_add] at h1
    rw [h1]
    have : byteAt (B.extract m (m + k)) j = byteAt B (m + j) := by
      rw [← byteAt_get _ _ (show j < (B.extract m (m + k)).size by omega), ← byteAt_get _ _ (show m + j < B.size by omega)]
      rw [ByteArray.getElem_extract]
    rw [this]
  have hcv := run_convert_bytes_arg (P := Try.prog) w 55 5 Try.underlying55 Try.underlying5 g m k c2 (numsB (B.extract m (m + k))) (by rw [numsB_length]; exact hsz) hcells 9 Try.underlying9
  rw [strOfNums_numsB] at hcv
  exact hcv

set_option maxRecDepth 100000 in
set_option maxHeartbeats 8000000 in
theorem pdata_any (K z N : Nat) (o : ByteArray) (w : World) (hz : 1 ≤ z ∧ z ≤ 16) (hK : 1 ≤ K ∧ K ≤ 20) (hN : N = K * z) (ho : o.size + 2 ≤ N) :
    Calls Try.prog 48 #[.int .i64 (K : Int), .int .i64 (z : Int), .string o] w fun e w' => ∃ v, e = .returned v ∧ w'.ownsRow w.heap.size 9 1 v K (textV (cutTo (objT N o) z K)) ∧ Below w.heap.size w w' := by
  have hN2 : N ≤ 320 := by rw [hN]; exact Nat.le_trans (Nat.mul_le_mul hK.2 hz.2) (by decide)
  have hmul : (K : Int) * (z : Int) = (N : Int) := by rw [hN]; simp
  have hm1 : 0 ≤ (K : Int) * (z : Int) := by rw [hmul]; omega
  have hm2 : (K : Int) * (z : Int) ≤ 320 := by rw [hmul]; omega
  obtain ⟨i0, hi0, hz0, hz1, hz2⟩ := info_parts Try.infoByte
  obtain ⟨j0, gi, gz0, gz1, gz2⟩ := info_parts Try.infoText
  have hmk : ∀ w, (Instr.makeSlice 55 (.int .i64 0) (.int .i64 ((K : Int) * (z : Int)))).run Try.prog w = .ok (.slice (some ⟨w.heap.size, 0, none⟩) 0 N) (w.alloc (.cells (madeCells #[.int .u8 0] N) 5)) := fun w => by
    rw [hmul]; exact run_make_byteRow N (by omega) w
  have hmk2 := run_make_texts K (by omega)
  have hob : objT N o = lenB o.size ++ o ++ zeroB (N - (2 + o.size)) := rfl
  have hos : (objT N o).size = N := objT_size N o ho
  have n1 : bytesV (lenB o.size) = [.int .u8 ((o.size % 256 : Nat) : Int), .int .u8 ((o.size / 256 : Nat) : Int)] := by
    unfold bytesV; rw [numsB_len o.size (by omega)]; rfl
  have hls : (lenB o.size).size = 2 := rfl
  generalize lenB o.size = lb at *
  generalize objT N o = T at *
  have HO := hide hob
  have HM := hide hmul
  have HN := hide hN
  have N1 := hide n1
  clear hob hmul hN n1
  go_enter Try.func48, Try.ntmps48
  go_upto_region 2 with fail
  have hbA : Below w.heap.size w (w.alloc (.cells (madeCells #[.int .u8 0] N) 5)) := (Below.refl _ _).alloc (Nat.le_refl _) _
  have hown : (w.alloc (.cells (madeCells #[.int .u8 0] N) 5)).ownsRow w.heap.size 5 1 (.slice (some ⟨w.heap.size, 0, none⟩) 0 N) 0 [] := World.ownsRow_made (base := w.heap.size) (e := 5) (size := 1) w (madeCells #[.int .u8 0] N) N (Nat.le_refl _) (by unfold maxLen; omega) (by simp [size_madeCells])
  have hsz : w.heap.size ≤ (w.alloc (.cells (madeCells #[.int .u8 0] N) 5)).heap.size := by simp
  generalize w.alloc (.cells (madeCells #[.int .u8 0] N) 5) = W at *
  clear hmk
  go_wp2_with (at_builtin; refine wpList_append_lies _ rfl (.tmp 15) (.tmp 24) 55 rfl w.heap.size 5 i0 (.int .u8 0) 1 1 Try.underlying55 hi0 hz0 hz1 hz2 rfl (by decide) _ _ _ rfl (hown.alloc _) ⟨W.heap.size, 0, none⟩ 2 2 (bytesV lb) rfl (by rw [bytesV_len, hls]) (byte_news W lb _ (by rw [N1.out]; rfl)) (bytesV_one lb) (by decide) (by unfold maxLen; omega) (by omega) (by simp; omega) (W.heap.size + 1) (by simp) ?_)
  intro g1 k1 W1 hown1 hgr1 hat1 hlt1
  have hb1 := below_own hown hgr1 hsz
  have hbA1 := hbA.trans hb1
  have hown1' : W1.ownsRow w.heap.size 5 1 (.slice (some ⟨g1, 0, none⟩) 2 k1) 2 (bytesV lb) := hown1
  clear hown hgr1 hat1 hlt1 hbA hb1 hown1 hsz N1
  have hsz1 := hbA1.size
  go_wp2_with (at_builtin; refine Go.Lib.wpList_append_own_string _ rfl (.tmp 26) (.tmp 27) 55 9 rfl w.heap.size 5 i0 Try.underlying55 Try.underlying9 hi0 hz0 hz1 hz2 _ _ _ rfl hown1' o rfl (by unfold maxLen; omega) (by omega) (by omega) ?_)
  intro v2 W2 hown2 hgr2 hn2
  have hb2 := below_ownS hown1' hgr2 hsz1
  have hbA2 := hbA1.trans hb2
  rw [bytesV_str, ← bytesV_app] at hown2
  obtain ⟨g2, k2, rfl, hg2, hgl2⟩ := hown2.form (by omega)
  clear hown1' hgr2 hn2 hbA1 hb2 hsz1
  have hts : (lb ++ o).size = 2 + o.size := by rw [ByteArray.size_append, hls]
  generalize lb ++ o = t0 at *
  go_wp2_with fail
  go_loopw [7] (fun tv wr => ∃ (k g c : Nat), 2 + o.size + k ≤ N ∧ tv = .slice (some ⟨g, 0, none⟩) (2 + o.size + k) c ∧ wr.ownsRow w.heap.size 5 1 tv (2 + o.size + k) (bytesV (t0 ++ zeroB k)) ∧ Below w.heap.size w wr) (fun tv _ => N - lenS tv)
  case atStart => exact ⟨0, g2, k2, by omega, rfl, by rw [show zeroB 0 = ByteArray.empty from rfl, ByteArray.append_empty]; exact hown2, hbA2⟩
  case round =>
    clear hown2 hbA2 hg2 hgl2
    obtain ⟨k, g, c, hk1, rfl, hown, hbw⟩ := hrel
    have hsw := hbw.size
    by_cases hlt : 2 + o.size + k < N
    · have hc1 : ((2 : Int) + (o.size : Int) + (k : Int)) < (K : Int) * (z : Int) := by rw [HM.out]; omega
      have hps := pad_succ t0 k
      have Hps := hide hps
      have n5 : bytesV ⟨#[0]⟩ = [.int .u8 0] := rfl
      have s5 : (ByteArray.mk #[0]).size = 1 := rfl
      have N5 := hide n5
      clear hps n5
      generalize ByteArray.mk #[0] = B5 at *
      go_wp2_with (at_builtin; refine wpList_append_lies _ rfl (.tmp 35) (.tmp 36) 55 rfl w.heap.size 5 i0 (.int .u8 0) 1 1 Try.underlying55 hi0 hz0 hz1 hz2 rfl (by decide) _ _ _ rfl (hown.alloc _) ⟨wr.heap.size, 0, none⟩ 1 1 (bytesV B5) rfl (by rw [bytesV_len, s5]) (byte_news wr B5 _ (by rw [N5.out])) (bytesV_one B5) (by decide) (by unfold maxLen; omega) (by omega) (by simp; omega) (wr.heap.size + 1) (by simp) ?_)
      intro g3 k3 W3 hown3 hgr3 hat3 hlt3
      have hb3 := below_own hown hgr3 hsw
      have hbw3 := hbw.trans hb3
      rw [← bytesV_app, Hps.out] at hown3
      clear hgr3 hat3 hlt3 hb3 hbw hown
      go_wp2_with fail
      go_roundw
      case rel => exact ⟨k + 1, g3, k3, by omega, rfl, hown3, hbw3⟩
      case measure => simp only [lenS]; omega
    · have hc1 : ¬ ((2 : Int) + (o.size : Int) + (k : Int)) < (K : Int) * (z : Int) := by rw [HM.out]; omega
      have hkN : k = N - (2 + o.size) := by omega
      have hT : t0 ++ zeroB k = T := by rw [hkN]; exact HO.out.symm
      rw [hT] at hown
      have hlN : 2 + o.size + k = N := by omega
      rw [hlN] at hown ⊢
      clear HO hT hkN hlt hlN hk1 hc1
      have hc1 : ¬ (N : Int) < (K : Int) * (z : Int) := by rw [HM.out]; omega
      have hcap : N ≤ c := by
        rcases hown.2 with ⟨h, _⟩ | ⟨g', c', cur, h, _, _, hc, _⟩
        · cases h
        · injection h with h1 h2 h3; omega
      have hgw : g < wr.heap.size := (hown.lt g rfl).2
      go_upto_region 7 with fail
      have hst : (wr.alloc (.cells (madeCells #[.string ByteArray.empty] K) 9)).ownsRow wr.heap.size 9 1 (.slice (some ⟨wr.heap.size, 0, none⟩) 0 K) 0 (textV (cutTo T z 0)) := World.ownsRow_made (base := wr.heap.size) (e := 9) (size := 1) wr (madeCells #[.string ByteArray.empty] K) K (Nat.le_refl _) (by unfold maxLen; omega) (by simp [size_madeCells])
      have hbS : Below wr.heap.size wr (wr.alloc (.cells (madeCells #[.string ByteArray.empty] K) 9)) := (Below.refl _ _).alloc (Nat.le_refl _) _
      generalize wr.alloc (.cells (madeCells #[.string ByteArray.empty] K) 9) = W5 at *
      clear hmk2
      obtain ⟨V, hV⟩ : ∃ V, V = wr := ⟨_, rfl⟩
      rw [← hV] at hown hst hbS hbw hsw hgw
      rw [← hV]
      clear hV
      go_wp2_with fail
      go_loopw [8, 9] (fun dv iv wi => ∃ j : Nat, j ≤ K ∧ iv = .int .i64 (j : Int) ∧ wi.ownsRow V.heap.size 9 1 dv j (textV (cutTo T z j)) ∧ Below V.heap.size V wi) (fun _ iv _ => K - (intOf iv).toNat)
      case atStart => exact ⟨0, Nat.zero_le _, rfl, hst, hbS⟩
      case round =>
        clear hst hbS
        obtain ⟨j, hj, rfl, hod, hbi⟩ := hrel
        by_cases hjK : j < K
        · have hjm : (j : Int) * (z : Int) = ((j * z : Nat) : Int) := by simp
          have hmz : j * z + z ≤ N := by rw [HN.out, ← Nat.succ_mul]; exact Nat.mul_le_mul_right z hjK
          have hcut : cutTo T z (j + 1) = cutTo T z j ++ [T.extract (j * z) (j * z + z)] := rfl
          have Hcut := hide hcut
          have j1 : 0 ≤ (j : Int) * (z : Int) := by rw [hjm]; omega
          have j2 : (j : Int) * (z : Int) ≤ 320 := by rw [hjm]; omega
          have hown2 := owns_of_block (w' := wr) hown (fun k hk => hbi.block k (hown.lt k hk).2)
          have hcv := conv_part T g N c w.heap.size (j * z) z (c - j * z) wr hown2 (by rw [hos]; exact hmz)
          have HJ := hide hjm
          clear hcut hjm
          go_upto_region 11 with fail
          rw [HJ.out]
          clear j1 j2 HJ
          generalize j * z = m at *
          have hsi := Nat.le_trans (Nat.le_refl _) hbi.size
          go_wp2_with (at_builtin; refine wpList_append_lies _ rfl (.tmp 48) (.tmp 56) 27 rfl V.heap.size 9 j0 (.string ByteArray.empty) 1 16 Try.underlying27 gi gz0 gz1 gz2 rfl (by decide) _ _ _ rfl (hod.alloc _) ⟨wr.heap.size, 0, none⟩ 1 1 [.string (T.extract m (m + z))] rfl rfl (one_news _ _ _) (one_oneCell rfl) (by decide) (by unfold maxLen; omega) (by omega) (by simp; omega) (wr.heap.size + 1) (by simp) ?_)
          intro g6 k6 W6 hown6 hgr6 hat6 hlt6
          have hb6 := below_own hod hgr6 hsi
          have hbi6 := hbi.trans hb6
          clear hgr6 hat6 hlt6 hb6 hbi hod hown2 hcv
          go_wp2_with fail
          go_roundw
          case rel => exact ⟨j + 1, by omega, by go_num, by rw [Hcut.out, textV_append]; exact hown6, hbi6⟩
          case measure => simp [intOf]; omega
        · have hjj : j = K := by omega
          subst hjj
          have hff := hbw.trans (hbi.mono hsw)
          have hof := owns_low hod hsw
          go_wp2_with fail
          go_ret
          exact ⟨_, rfl, hof, hff⟩

end Go.Proofs.Ytnjaofkieajnlab

/- The program's Room. -/
namespace Go.Proofs.Ytnjaofkieajnlab
open Go.RowKit

set_option maxRecDepth 100000 in
set_option maxHeartbeats 4000000 in
theorem room_any (K z : Nat) (w : World) (hK : K ≤ 20) (hz : z ≤ 16) :
    Calls Try.prog 47 #[.int .i64 (K : Int), .int .i64 (z : Int)] w fun e w' => e = .returned (.int .i64 ((K : Int) * (z : Int) - 2)) ∧ w' = w := by
  have hN2 : K * z ≤ 320 := Nat.le_trans (Nat.mul_le_mul hK hz) (by decide)
  have hmul : (K : Int) * (z : Int) = ((K * z : Nat) : Int) := by simp
  have hm1 : 0 ≤ (K : Int) * (z : Int) := by rw [hmul]; omega
  have hm2 : (K : Int) * (z : Int) ≤ 320 := by rw [hmul]; omega
  clear hmul hN2
  go_enter Try.func47, Try.ntmps47
  go_wp2_with fail
  go_ret
  exact ⟨rfl, rfl⟩

end Go.Proofs.Ytnjaofkieajnlab
