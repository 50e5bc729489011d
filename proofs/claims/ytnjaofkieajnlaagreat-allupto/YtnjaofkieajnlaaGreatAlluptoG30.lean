/- Texts of the proof, part 31. -/
import Derived.Test.YtnjaofkieajnlaaGreatAlluptoG10
import Derived.Test.YtnjaofkieajnlaaGreatAlluptoG19
import Derived.Test.YtnjaofkieajnlaaGreatAlluptoG20

/- The program's inbox in memory: its cells, and the boxes within it. -/
namespace Go.Proofs.YtnjaofkieajnlaaGreat
open Go.RowKit

/-- The cells of the program's inbox: c parts, of which the first m have boxes laid. -/
def inbCell (c K M O S z m : Nat) (ks : Nat → Kn) (i : Nat) : Value :=
  if i = 0 then .int .i64 (c : Int) else if i = 1 then .int .i64 (K : Int) else if i = 2 then .int .i64 (M : Int) else if i = 3 then .int .i64 (O : Int) else if i = 4 then .int .i64 (S : Int) else if i = 5 then .int .i64 (z : Int) else if (i - 6) / 83 < m then boxCell K (K + M) z (ofs K M O S) (ks ((i - 6) / 83)) ((i - 6) % 83) else boxCell 0 0 0 (fun _ => 0) kn0 ((i - 6) % 83)

/-- Block p is an inbox. -/
def InbAt (w : World) (p : Nat) (tt : TypeId) (c K M O S z m : Nat) (ks : Nat → Kn) : Prop := w.rowIs p tt 1666 (inbCell c K M O S z m ks)

theorem inbCell_at (c K M O S z m : Nat) (ks : Nat → Kn) (q j : Nat) (hq : q < m) (hj : j < 83) : inbCell c K M O S z m ks (6 + q * 83 + j) = boxCell K (K + M) z (ofs K M O S) (ks q) j := by
  unfold inbCell
  rw [if_neg (by omega), if_neg (by omega), if_neg (by omega), if_neg (by omega), if_neg (by omega), if_neg (by omega), show (6 + q * 83 + j - 6) / 83 = q by omega, show (6 + q * 83 + j - 6) % 83 = j by omega, if_pos hq]

theorem inbCell_box (c K M O S z m : Nat) (ks : Nat → Kn) (q : Nat) (hq : q < m) (kn : Kn) (i : Nat) : inBox (6 + q * 83) (inbCell c K M O S z m ks) K (K + M) z (ofs K M O S) kn i = inbCell c K M O S z m (fun j => if j = q then kn else ks j) i := by
  unfold inBox
  by_cases h1 : i < 6 + q * 83
  · rw [if_pos h1]
    unfold inbCell
    by_cases h6 : i < 6
    · have : i = 0 ∨ i = 1 ∨ i = 2 ∨ i = 3 ∨ i = 4 ∨ i = 5 := by omega
      rcases this with h | h | h | h | h | h <;> subst h <;> rfl
    · have e : (fun j => if j = q then kn else ks j) ((i - 6) / 83) = ks ((i - 6) / 83) := if_neg (by omega)
      rw [e]
  · rw [if_neg h1]
    by_cases h2 : i < 6 + q * 83 + 83
    · rw [if_pos h2]
      have := inbCell_at c K M O S z m (fun j => if j = q then kn else ks j) q (i - (6 + q * 83)) hq (by omega)
      rw [show 6 + q * 83 + (i - (6 + q * 83)) = i by omega, if_pos rfl] at this
      exact this.symm
    · rw [if_neg h2]
      unfold inbCell
      have e : (fun j => if j = q then kn else ks j) ((i - 6) / 83) = ks ((i - 6) / 83) := if_neg (by omega)
      rw [e]

namespace InbAt
variable {w w' : World} {p : Nat} {tt : TypeId} {c K M O S z m : Nat} {ks : Nat → Kn}

theorem lt (h : InbAt w p tt c K M O S z m ks) : p < w.heap.size := World.rowIs.lt h

theorem block (h : InbAt w p tt c K M O S z m ks) (hb : w'.heap[p]? = w.heap[p]?) : InbAt w' p tt c K M O S z m ks := World.rowIs.of_block h hb

theorem on (h : InbAt w p tt c K M O S z m ks) {n : Nat} (hm : w.heap.size ≤ n) (hb : Below n w w') : InbAt w' p tt c K M O S z m ks := h.block (hb.block p (Nat.lt_of_lt_of_le h.lt hm))

theorem cell (h : InbAt w p tt c K M O S z m ks) {i : Nat} (hi : i < 1666) : w.cell? ⟨p, i, none⟩ = some (inbCell c K M O S z m ks i) := World.rowIs.cell h hi

theorem head (h : InbAt w p tt c K M O S z m ks) : w.cell? ⟨p, 0, none⟩ = some (.int .i64 (c : Int)) ∧ w.cell? ⟨p, 1, none⟩ = some (.int .i64 (K : Int)) ∧ w.cell? ⟨p, 2, none⟩ = some (.int .i64 (M : Int)) ∧ w.cell? ⟨p, 3, none⟩ = some (.int .i64 (O : Int)) ∧ w.cell? ⟨p, 4, none⟩ = some (.int .i64 (S : Int)) ∧ w.cell? ⟨p, 5, none⟩ = some (.int .i64 (z : Int)) :=
  ⟨h.cell (i := 0) (by omega), h.cell (i := 1) (by omega), h.cell (i := 2) (by omega), h.cell (i := 3) (by omega), h.cell (i := 4) (by omega), h.cell (i := 5) (by omega)⟩

theorem frozen (h : InbAt w p tt c K M O S z m ks) (i : Nat) : w.frozen? ⟨p, i, none⟩ = false := World.rowIs.frozen h i

theorem there (h : InbAt w p tt c K M O S z m ks) (o n : Nat) (hn : o + n ≤ 1666) : w.there p o n := fun j hj => ⟨by rw [h.cell (by omega)]; rfl, h.frozen _⟩

theorem box (h : InbAt w p tt c K M O S z m ks) {q : Nat} (hq : q < m) (hq2 : q < 20) : BoxOff w p (6 + q * 83) 1666 tt (inbCell c K M O S z m ks) K (K + M) z (ofs K M O S) (ks q) :=
  ⟨by omega, World.rowIs.congr h (fun i _ => by
    rw [inbCell_box c K M O S z m ks q hq (ks q) i]
    congr 1
    funext j
    split
    · rename_i e; rw [e]
    · rfl)⟩

theorem of_box {q : Nat} (hq : q < m) {kn : Kn} (h : BoxOff w p (6 + q * 83) 1666 tt (inbCell c K M O S z m ks) K (K + M) z (ofs K M O S) kn) : InbAt w p tt c K M O S z m (fun j => if j = q then kn else ks j) :=
  World.rowIs.congr h.2 (fun i _ => inbCell_box c K M O S z m ks q hq kn i)

/-- A box is laid behind the others. -/
theorem grow (h : InbAt w p tt c K M O S z m ks) (hk : ks m = kn0) : InbAt (w.setCells p (6 + m * 83) (boxL K (K + M) z (ofs K M O S) kn0)) p tt c K M O S z (m + 1) ks := by
  refine World.rowIs.congr (row_setCells _ (6 + m * 83) _ _ h) (fun i hi => ?_)
  rw [boxL_length]
  by_cases h1 : 6 + m * 83 ≤ i ∧ i < 6 + m * 83 + 83
  · rw [if_pos h1, List.getD_eq_getElem?_getD, boxL_get _ _ _ _ _ _ (by omega)]
    have := inbCell_at c K M O S z (m + 1) ks m (i - (6 + m * 83)) (by omega) (by omega)
    rw [show 6 + m * 83 + (i - (6 + m * 83)) = i by omega, hk] at this
    rw [this]; rfl
  · rw [if_neg h1]
    unfold inbCell
    by_cases h6 : i < 6
    · have : i = 0 ∨ i = 1 ∨ i = 2 ∨ i = 3 ∨ i = 4 ∨ i = 5 := by omega
      rcases this with h | h | h | h | h | h <;> subst h <;> rfl
    · by_cases h2 : (i - 6) / 83 < m
      · rw [if_pos h2, if_pos (show (i - 6) / 83 < m + 1 by omega)]
      · rw [if_neg h2, if_neg (show ¬ (i - 6) / 83 < m + 1 by omega)]

theorem congr (h : InbAt w p tt c K M O S z m ks) {ks' : Nat → Kn} (hk : ∀ j, j < m → ks j = ks' j) : InbAt w p tt c K M O S z m ks' := World.rowIs.congr h (fun i _ => by
  unfold inbCell
  by_cases h2 : (i - 6) / 83 < m
  · rw [if_pos h2, if_pos h2, hk _ h2]
  · rw [if_neg h2, if_neg h2])

end InbAt

/-- The cells as a list. -/
def inbL (c K M O S z m : Nat) (ks : Nat → Kn) : List Value := (List.range 1666).map (inbCell c K M O S z m ks)

theorem inbL_length (c K M O S z m : Nat) (ks : Nat → Kn) : (inbL c K M O S z m ks).length = 1666 := by simp [inbL]

theorem inbL_get (c K M O S z m : Nat) (ks : Nat → Kn) (i : Nat) (hi : i < 1666) : (inbL c K M O S z m ks)[i]? = some (inbCell c K M O S z m ks i) := by
  unfold inbL
  rw [List.getElem?_map, List.getElem?_range hi]; rfl

theorem inbL_one (c K M O S z m : Nat) (ks : Nat → Kn) : ∀ v ∈ inbL c K M O S z m ks, v.oneCell' = true := by
  intro v hv
  obtain ⟨i, _, rfl⟩ := List.mem_map.1 hv
  unfold inbCell
  repeat' split
  all_goals first | rfl | exact boxCell_one _ _ _ _ _ _

theorem inbL_range {w : World} {p : Nat} {tt : TypeId} {c K M O S z m : Nat} {ks : Nat → Kn} (h : InbAt w p tt c K M O S z m ks) : w.rangeAt p 0 (inbL c K M O S z m ks) := fun j v hv => by
  have hj : j < 1666 := by have := (List.getElem?_eq_some_iff.1 hv).1; rwa [inbL_length] at this
  rw [inbL_get _ _ _ _ _ _ _ _ _ hj] at hv
  rw [Nat.zero_add, h.cell hj, hv]

theorem inb_stored {w : World} {p : Nat} {tt : TypeId} {c' K' M' O' S' z' m' : Nat} {ks' : Nat → Kn} (h : InbAt w p tt c' K' M' O' S' z' m' ks') (c K M O S z m : Nat) (ks : Nat → Kn) : InbAt (w.setCells p 0 (inbL c K M O S z m ks)) p tt c K M O S z m ks := by
  refine World.rowIs.congr (row_setCells _ 0 _ _ h) (fun i hi => ?_)
  rw [inbL_length, if_pos (by omega), Nat.sub_zero, List.getD_eq_getElem?_getD, inbL_get _ _ _ _ _ _ _ _ _ hi]; rfl

theorem inb_new (w : World) (tt : TypeId) (c K M O S z m : Nat) (ks : Nat → Kn) : InbAt (w.alloc (.cells (inbL c K M O S z m ks).toArray tt)) w.heap.size tt c K M O S z m ks := by
  refine ⟨_, heap_alloc_new w _, by simp [inbL], fun i hi => ?_⟩
  rw [List.getElem?_toArray, inbL_get _ _ _ _ _ _ _ _ _ hi]

theorem built_inb (c K M O S z : Nat) : Tryz.prog.built 94 [(0, .int .i64 (c : Int)), (1, specV K M O S), (2, .int .i64 (z : Int))] = some (inbL c K M O S z 0 (fun _ => kn0)).toArray := by kernel_rfl

theorem built_noinb : Tryz.prog.built 96 [] = some (inbL 0 0 0 0 0 0 0 (fun _ => kn0)).toArray := by kernel_rfl

end Go.Proofs.YtnjaofkieajnlaaGreat

/- An inbox as plain mathematics: what it has taken, and what it answers. -/
namespace Go.Proofs.YtnjaofkieajnlaaGreat

/-- What an inbox has taken: a specification, a size, and of each part what a catcher has; no parts: nothing was taken. -/
structure IS where
  K : Nat
  M : Nat
  O : Nat
  S : Nat
  z : Nat
  parts : List CS

def IS.zero : IS := ⟨0, 0, 0, 0, 0, []⟩

/-- Of this specification and size. -/
def partOf (s : IS) (c : CS) : Prop := c.tk = true → c.K = s.K ∧ c.M = s.M ∧ c.O = s.O ∧ c.S = s.S ∧ c.z = s.z

structure ISok (s : IS) : Prop where
  none : s.parts = [] → s = IS.zero
  spec : s.parts ≠ [] → SpecOk s.K s.M s.O s.S s.z
  len : s.parts.length ≤ 20
  each : ∀ c ∈ s.parts, CSok c ∧ partOf s c

theorem ISok.new : ISok IS.zero := ⟨fun _ => rfl, fun h => absurd rfl h, Nat.zero_le _, fun c hc => by simp [IS.zero] at hc⟩

/-- The packet within a sheet, its part's number, how many parts. -/
def tQ (t : ByteArray) : ByteArray := t.extract 3 t.size
def tP (t : ByteArray) : Nat := (byteAt t 1).toNat
def tN (t : ByteArray) : Nat := (byteAt t 2).toNat

/-- The three bytes ahead are a sheet's. -/
def headOk (t : ByteArray) : Prop := 4 ≤ t.size ∧ byteAt t 0 = 83 ∧ 1 ≤ tN t ∧ tN t ≤ 20 ∧ tP t < tN t

def headSb (t : ByteArray) : Bool := decide (4 ≤ t.size ∧ byteAt t 0 = 83 ∧ 1 ≤ tN t ∧ tN t ≤ 20 ∧ tP t < tN t)

theorem headSb_iff (t : ByteArray) : headSb t = true ↔ headOk t := decide_eq_true_iff

def sameI (s : IS) (t : ByteArray) : Bool := decide (rK (tQ t) = s.K ∧ rM (tQ t) = s.M ∧ rO (tQ t) = s.O ∧ rS (tQ t) = s.S ∧ rZ (tQ t) = s.z ∧ tN t = s.parts.length)

theorem sameI_iff (s : IS) (t : ByteArray) : sameI s t = true ↔ (rK (tQ t) = s.K ∧ rM (tQ t) = s.M ∧ rO (tQ t) = s.O ∧ rS (tQ t) = s.S ∧ rZ (tQ t) = s.z ∧ tN t = s.parts.length) := decide_eq_true_iff

/-- The parts that a sheet speaks of. -/
def partsOf (s : IS) (t : ByteArray) : List CS := if s.parts = [] then List.replicate (tN t) CS.zero else s.parts

/-- What Take answers. -/
def takeE (s : IS) (t : ByteArray) : Int := if headSb t = false ∨ packetB (tQ t) = false then 6 else if s.parts ≠ [] ∧ sameI s t = false then 7 else hearE ((partsOf s t).getD (tP t) CS.zero) (tQ t)

/-- What an inbox has taken behind it. -/
def takeS (s : IS) (t : ByteArray) : IS := if takeE s t = 0 then ⟨rK (tQ t), rM (tQ t), rO (tQ t), rS (tQ t), rZ (tQ t), (partsOf s t).set (tP t) (hearS ((partsOf s t).getD (tP t) CS.zero) (tQ t))⟩ else s

/-- What Lacks answers. -/
def lackC (K : Nat) (c : CS) : Nat := if c.tk = true then openK c.kn c.K else K

def lackTo (s : IS) : Nat → Nat
  | 0 => 0
  | i + 1 => lackTo s i + lackC s.K (s.parts.getD i CS.zero)

def lackE (s : IS) : Int := if s.parts = [] then -1 else (lackTo s s.parts.length : Int)

/-- The objects of the first parts, joined. -/
def wholeTo (s : IS) : Nat → ByteArray
  | 0 => ByteArray.empty
  | i + 1 => wholeTo s i ++ (objE (s.parts.getD i CS.zero)).1

def isOpen (s : IS) : Bool := s.parts.any (fun c => decide ((objE c).2 = 5))
def isForm (s : IS) : Bool := s.parts.all (fun c => decide ((objE c).2 = 0))

def isCut (s : IS) (T : ByteArray) : Bool := (List.range s.parts.length).all (fun p => decide ((objE (s.parts.getD p CS.zero)).1 = partT T (s.K * s.z - 2) p))

/-- What Whole answers. -/
def wholeE (s : IS) : ByteArray × Int :=
  if s.parts = [] ∨ isOpen s = true then (⟨#[]⟩, 5)
  else if isForm s = true ∧ 3 ≤ s.K * s.z ∧ partsN (wholeTo s s.parts.length) (s.K * s.z - 2) = s.parts.length ∧ isCut s (wholeTo s s.parts.length) = true then (wholeTo s s.parts.length, 0)
  else (⟨#[]⟩, 8)

theorem getD_mem {α : Type} {l : List α} {i : Nat} (h : i < l.length) (d : α) : l.getD i d ∈ l := by
  rw [List.getD_eq_getElem?_getD, List.getElem?_eq_getElem h]; exact List.getElem_mem _

theorem ISok.part {s : IS} (h : ISok s) {i : Nat} (hi : i < s.parts.length) : CSok (s.parts.getD i CS.zero) ∧ partOf s (s.parts.getD i CS.zero) := h.each _ (getD_mem hi _)

theorem partsOf_len {s : IS} {t : ByteArray} (h : s.parts = [] ∨ tN t = s.parts.length) : (partsOf s t).length = tN t := by
  unfold partsOf
  split
  · exact List.length_replicate
  · rename_i hne
    rcases h with h | h
    · exact absurd h hne
    · exact h.symm

theorem partsOf_ok {s : IS} (h : ISok s) (t : ByteArray) : ∀ c ∈ partsOf s t, CSok c ∧ partOf s c := by
  intro c hc
  unfold partsOf at hc
  split at hc
  · rw [List.eq_of_mem_replicate hc]
    exact ⟨CSok.new, fun e => (by cases e)⟩
  · exact h.each c hc

/-- What was taken stays well formed. -/
theorem ISok.take {s : IS} (h : ISok s) (t : ByteArray) : ISok (takeS s t) := by
  unfold takeS
  by_cases h0 : takeE s t = 0
  · rw [if_pos h0]
    have h0' := h0
    unfold takeE at h0
    by_cases h1 : headSb t = false ∨ packetB (tQ t) = false
    · rw [if_pos h1] at h0; cases h0
    · rw [if_neg h1] at h0
      by_cases h2 : s.parts ≠ [] ∧ sameI s t = false
      · rw [if_pos h2] at h0; cases h0
      · rw [if_neg h2] at h0
        have hh : headOk t := (headSb_iff t).1 (by cases hx : headSb t with | true => rfl | false => exact absurd (Or.inl hx) h1)
        have hp : PacketOk (tQ t) := (packetB_iff _).1 (by cases hx : packetB (tQ t) with | true => rfl | false => exact absurd (Or.inr hx) h1)
        obtain ⟨a1, a2, a3, a4, a5, a6, a7⟩ := hp.has
        have hsame : s.parts = [] ∨ (rK (tQ t) = s.K ∧ rM (tQ t) = s.M ∧ rO (tQ t) = s.O ∧ rS (tQ t) = s.S ∧ rZ (tQ t) = s.z ∧ tN t = s.parts.length) := by
          by_cases hn : s.parts = []
          · exact Or.inl hn
          · right
            refine (sameI_iff s t).1 ?_
            cases hx : sameI s t with
            | true => rfl
            | false => exact absurd ⟨hn, hx⟩ h2
        have hlen : (partsOf s t).length = tN t := partsOf_len (hsame.imp id (fun x => x.2.2.2.2.2))
        obtain ⟨_, _, n1, n2, n3⟩ := hh
        have hne : (partsOf s t).set (tP t) (hearS ((partsOf s t).getD (tP t) CS.zero) (tQ t)) ≠ [] := fun e => by
          have := congrArg List.length e
          rw [List.length_set, hlen] at this
          simp at this
          omega
        have hT : (hearS ((partsOf s t).getD (tP t) CS.zero) (tQ t)) = ⟨true, rK (tQ t), rM (tQ t), rO (tQ t), rS (tQ t), rZ (tQ t), putK ((partsOf s t).getD (tP t) CS.zero).kn (ofs (rK (tQ t)) (rM (tQ t)) (rO (tQ t)) (rS (tQ t)) (rI (tQ t))) (rQ (tQ t)), if (hearL ((partsOf s t).getD (tP t) CS.zero) (tQ t)).1 = 0 then ((partsOf s t).getD (tP t) CS.zero).ps else ((partsOf s t).getD (tP t) CS.zero).ps ++ [(rI (tQ t), rQ (tQ t))]⟩ := by
          unfold hearS
          rw [if_pos h0]
        refine ⟨fun e => absurd e hne, fun _ => ⟨a1, a2, a3, a4, a5⟩, by rw [List.length_set, hlen]; exact n2, fun c hc => ?_⟩
        rcases List.mem_or_eq_of_mem_set hc with hc | hc
        · obtain ⟨g1, g2⟩ := partsOf_ok h t c hc
          refine ⟨g1, fun hk => ?_⟩
          rcases hsame with hs | ⟨e1, e2, e3, e4, e5, _⟩
          · unfold partsOf at hc
            rw [if_pos hs] at hc
            rw [List.eq_of_mem_replicate hc] at hk
            cases hk
          · have := g2 hk
            exact ⟨this.1.trans e1.symm, this.2.1.trans e2.symm, this.2.2.1.trans e3.symm, this.2.2.2.1.trans e4.symm, this.2.2.2.2.trans e5.symm⟩
        · rw [hc]
          refine ⟨(partsOf_ok h t _ (getD_mem (by omega) _)).1.hear (tQ t), fun _ => ?_⟩
          rw [hT]
          exact ⟨rfl, rfl, rfl, rfl, rfl⟩
  · rw [if_neg h0]; exact h

end Go.Proofs.YtnjaofkieajnlaaGreat

/- The program's read of a sheet. -/
namespace Go.Proofs.YtnjaofkieajnlaaGreat
open Go.RowKit

/-- The cells of a sheet. -/
abbrev shC (a c K M O S z i : Int) (q : ByteArray) : Array Value := #[.int .i64 a, .int .i64 c, .int .i64 K, .int .i64 M, .int .i64 O, .int .i64 S, .int .i64 z, .int .i64 i, .string q]

abbrev sh0 : Array Value := shC 0 0 0 0 0 0 0 0 ⟨#[]⟩

theorem Tryz.sizeSh : (Tryz.prog.info? 151).map (·.size) = some 9 := by kernel_rfl

theorem sh_one (a c K M O S z i : Int) (p : ByteArray) : (shC a c K M O S z i p).all (fun x => x.oneCell') = true := by
  simp [Value.oneCell']

theorem results_lread (tmps : Array Value) (w : World) (g : Nat) (a c K M O S z i : Int) (q : ByteArray) (fr : Nat × Nat) (hp : tmps.getD 2 undef = .pointer (some ⟨g, 0, none⟩)) (hg : w.heap[g]? = some (.cells (shC a c K M O S z i q) 151 fr)) :
    (results Tryz.f97 tmps).run Tryz.prog w = .ok (.tuple #[.agg (shC a c K M O S z i q), tmps.getD 3 undef]) w := by
  have hl := run_loadVar_row (P := Tryz.prog) w g 151 151 _ fr _ hg Tryz.underlying151 rfl Tryz.sizeSh
  have hp' : tmps[2]?.getD undef = .pointer (some ⟨g, 0, none⟩) := by simpa using hp
  simp [results, Tryz.results97, hp', asAddr, hl]

/-- 'build' at a sheet, kept whole. -/
noncomputable def builtSh (parts : Array (Nat × Value)) : Sem Value := Instr.build 151 parts

theorem build_maskSh (parts : Array (Nat × Value)) : Instr.build 151 parts = builtSh parts := rfl

theorem sh_build (a c K M O S z i : Int) (q : ByteArray) (w : World) : (builtSh #[(0, .int .i64 a), (1, .int .i64 c), (2, .agg (pkC K M O S z i q))]).run Tryz.prog w = .ok (.agg (shC a c K M O S z i q)) w :=
  run_build (P := Tryz.prog) w 151 #[(0, .int .i64 a), (1, .int .i64 c), (2, .agg (pkC K M O S z i q))] _ (by kernel_rfl)

theorem sh_build0 (w : World) : (builtSh #[]).run Tryz.prog w = .ok (.agg sh0) w :=
  run_build (P := Tryz.prog) w 151 #[] sh0 (by kernel_rfl)

attribute [local go_sem ↓] build_maskSh

set_option maxRecDepth 100000 in
set_option maxHeartbeats 8000000 in
theorem lread_head (t : ByteArray) (w : World) (h : (t.size : Int) < 3 ∨ (3 ≤ t.size ∧ byteAt t 0 ≠ 83) ∨ (3 ≤ t.size ∧ byteAt t 0 = 83 ∧ (20 < tN t ∨ (tN t ≤ 20 ∧ tN t ≤ tP t)))) :
    Calls Tryz.prog 97 #[.string t] w fun e w' => e = .returned (.tuple #[.agg sh0, .bool false]) ∧ Below w.heap.size w w' := by
  have hbA : Below w.heap.size w (w.alloc (.cells sh0 151)) := (Below.refl _ _).alloc (Nat.le_refl _) _
  have hres : (w.alloc (.cells sh0 151)).heap[w.heap.size]? = some (.cells sh0 151 (0, 0)) := heap_alloc_new w _
  have hone := sh_one 0 0 0 0 0 0 0 0 ⟨#[]⟩
  have hb0 := sh_build0
  have hf1 := setRow_heap _ _ _ sh0 _ _ hres
  have hf2 : Below w.heap.size w ((w.alloc (.cells sh0 151)).setRow w.heap.size sh0) := ((Chg.of_below hbA (fun _ => False)).setRow (Or.inl (Nat.le_refl _)) _).below (fun _ _ f => f)
  have hf1n : ∀ n, ((w.alloc (.cells sh0 151)).drewN n).heap[w.heap.size]? = some (.cells sh0 151 (0, 0)) := fun n => hres
  have Hf1 := hide hf1
  have Hf2 := hide hf2
  have Hres := hide hres
  have Hn := hide hf1n
  clear hf1 hf2 hres hf1n
  rcases h with h | ⟨h3, h0⟩ | ⟨h3, h0, h⟩
  · go_enter Tryz.func97, Tryz.ntmps97
    go_wp2_with (first | (refine wpList_store_row rfl 151 (.tmp 2) (.tmp 16) rfl w.heap.size sh0 rfl rfl 151 sh0 Hres.out Tryz.sizeSh rfl hone ?_))
    exact bodyPost_ret (results_lread _ _ w.heap.size 0 0 0 0 0 0 0 0 _ _ rfl Hf1.out) rfl ⟨rfl, Hf2.out⟩
  · have hl1 : ¬ (t.size : Int) < 3 := by omega
    have g0 := byteAt_get t 0 (by omega)
    have i0 : (0 : Int) < (t.size : Int) := by omega
    have b0 := (byteAt t 0).toNat_lt
    have h0b : (((byteAt t 0).toNat : Int) != 83) = true := by
      simp only [bne_iff_ne, ne_eq]
      intro e
      exact h0 (UInt8.toNat_inj.1 (by show (byteAt t 0).toNat = 83; omega))
    clear h0
    go_enter Tryz.func97, Tryz.ntmps97
    go_wp2_with (first | (refine wpList_store_row rfl 151 (.tmp 2) (.tmp 16) rfl w.heap.size sh0 rfl rfl 151 sh0 Hres.out Tryz.sizeSh rfl hone ?_))
    exact bodyPost_ret (results_lread _ _ w.heap.size 0 0 0 0 0 0 0 0 _ _ rfl Hf1.out) rfl ⟨rfl, Hf2.out⟩
  · have g0 := byteAt_get t 0 (by omega)
    have g1 := byteAt_get t 1 (by omega)
    have g2 := byteAt_get t 2 (by omega)
    have b1 := (byteAt t 1).toNat_lt
    have b2 := (byteAt t 2).toNat_lt
    have i0 : (0 : Int) < (t.size : Int) := by omega
    have i1 : (1 : Int) < (t.size : Int) := by omega
    have i2 : (2 : Int) < (t.size : Int) := by omega
    have hl1 : ¬ (t.size : Int) < 3 := by omega
    have h1 : (((byteAt t 0).toNat : Int) != 83) = false := by rw [h0]; rfl
    have hor : (20 : Int) < ((byteAt t 2).toNat : Int) ∨ (¬ (20 : Int) < ((byteAt t 2).toNat : Int) ∧ ((byteAt t 2).toNat : Int) ≤ ((byteAt t 1).toNat : Int)) := by
      unfold tN tP at h
      omega
    clear h h0
    go_enter Tryz.func97, Tryz.ntmps97
    go_upto_region 3 with fail
    generalize w.alloc (.cells sh0 151) = W at *
    go_cut [4, 5] (fun s4 s5 wc => s4 = .int .i64 ((byteAt t 1).toNat : Int) ∧ s5 = .int .i64 ((byteAt t 2).toNat : Int) ∧ ∃ n, wc = W.drewN n)
    case first =>
      go_quiet (fail)
      go_wp2_with fail
      go_meet
      case rel => exact ⟨rfl, rfl, _, rfl⟩
    case rest =>
    obtain ⟨rfl, rfl, nq, rfl⟩ := hcut
    have hresN := Hn.out nq
    have hbN : Below w.heap.size w (W.drewN nq) := hbA.trans ⟨rfl, rfl, rfl, Nat.le_refl _, fun _ _ => rfl⟩
    have hf1 := setRow_heap _ _ _ sh0 _ _ hresN
    have hf2 : Below w.heap.size w ((W.drewN nq).setRow w.heap.size sh0) := ((Chg.of_below hbN (fun _ => False)).setRow (Or.inl (Nat.le_refl _)) _).below (fun _ _ f => f)
    have HF1 := hide hf1
    have HF2 := hide hf2
    have HR := hide hresN
    generalize W.drewN nq = V at *
    clear hf1 hf2 hresN hbN Hn Hf1 Hf2 Hres hbA g0 g1 g2
    rcases hor with h | ⟨h, h'⟩
    all_goals
      go_wp2_with (first | (refine wpList_store_row rfl 151 (.tmp 2) (.tmp 30) rfl w.heap.size sh0 rfl rfl 151 sh0 HR.out Tryz.sizeSh rfl hone ?_))
      exact bodyPost_ret (results_lread _ _ w.heap.size 0 0 0 0 0 0 0 0 _ _ rfl HF1.out) rfl ⟨rfl, HF2.out⟩

set_option maxRecDepth 100000 in
set_option maxHeartbeats 8000000 in
theorem lread_packet (t : ByteArray) (w : World) (h : 3 ≤ t.size ∧ byteAt t 0 = 83 ∧ 1 ≤ tN t ∧ tN t ≤ 20 ∧ tP t < tN t) :
    Calls Tryz.prog 97 #[.string t] w fun e w' => ((PacketOk (tQ t) → e = .returned (.tuple #[.agg (shC (tP t : Int) (tN t : Int) (rK (tQ t)) (rM (tQ t)) (rO (tQ t)) (rS (tQ t)) (rZ (tQ t)) (rI (tQ t)) (rQ (tQ t))), .bool true])) ∧ (¬ PacketOk (tQ t) → e = .returned (.tuple #[.agg sh0, .bool false]))) ∧ Below w.heap.size w w' := by
  have hbA : Below w.heap.size w (w.alloc (.cells sh0 151)) := (Below.refl _ _).alloc (Nat.le_refl _) _
  have hres : (w.alloc (.cells sh0 151)).heap[w.heap.size]? = some (.cells sh0 151 (0, 0)) := heap_alloc_new w _
  have hone0 := sh_one 0 0 0 0 0 0 0 0 ⟨#[]⟩
  have hb0 := sh_build0
  have hyes := fun W h => pread_ok (tQ t) W h
  have hnot := fun W h => pread_no (tQ t) W h
  obtain ⟨h4, e0, n1, n2, n3⟩ := h
  have htq : tQ t = t.extract 3 t.size := rfl
  have htn : tN t = (byteAt t 2).toNat := rfl
  have htp : tP t = (byteAt t 1).toNat := rfl
  have g0 := byteAt_get t 0 (by omega)
  have g1 := byteAt_get t 1 (by omega)
  have g2 := byteAt_get t 2 (by omega)
  have b1 := (byteAt t 1).toNat_lt
  have b2 := (byteAt t 2).toNat_lt
  have i0 : (0 : Int) < (t.size : Int) := by omega
  have i1 : (1 : Int) < (t.size : Int) := by omega
  have i2 : (2 : Int) < (t.size : Int) := by omega
  have i3 : (3 : Int) ≤ (t.size : Int) := by omega
  have hl1 : ¬ (t.size : Int) < 3 := by omega
  have h1 : (((byteAt t 0).toNat : Int) != 83) = false := by rw [e0]; rfl
  rw [htn] at n1 n2 n3
  rw [htp] at n3
  have h2 : ¬ (20 : Int) < ((byteAt t 2).toNat : Int) := by omega
  have h5 : ¬ ((byteAt t 2).toNat : Int) ≤ ((byteAt t 1).toNat : Int) := by omega
  rw [htn, htp]
  rw [htq] at hyes hnot ⊢
  clear htn htp htq n1 n2 n3 e0
  generalize hE : t.extract 3 t.size = E at *
  have HE := hide hE
  clear hE
  generalize (rK E : Int) = K at *
  generalize (rM E : Int) = M at *
  generalize (rO E : Int) = O at *
  generalize (rS E : Int) = S at *
  generalize (rZ E : Int) = z at *
  generalize (rI E : Int) = i at *
  generalize rQ E = q at *
  go_enter Tryz.func97, Tryz.ntmps97
  go_upto_region 3 with fail
  generalize w.alloc (.cells sh0 151) = W at *
  go_cut [4, 5] (fun s4 s5 wc => s4 = .int .i64 ((byteAt t 1).toNat : Int) ∧ s5 = .int .i64 ((byteAt t 2).toNat : Int) ∧ ∃ n, wc = W.drewN n)
  case first =>
    go_quiet (fail)
    go_wp2_with fail
    go_meet
    case rel => exact ⟨rfl, rfl, _, rfl⟩
  case rest =>
  obtain ⟨rfl, rfl, nq, rfl⟩ := hcut
  have hresN : (W.drewN nq).heap[w.heap.size]? = some (.cells sh0 151 (0, 0)) := hres
  have hbN : Below w.heap.size w (W.drewN nq) := hbA.trans ⟨rfl, rfl, rfl, Nat.le_refl _, fun _ _ => rfl⟩
  generalize W.drewN nq = V at *
  clear hres hbA g0 g1 g2 h1
  by_cases hpk : PacketOk E
  · go_wp2_with (rw [HE.out])
    refine (hyes _ hpk).mono ?_
    rintro e w1 ⟨rfl, hb1⟩
    have hres1 := block_on hresN hb1
    have hbw1 := hbN.trans (hb1.mono hbN.size)
    have hrl := (Array.getElem?_eq_some_iff.1 hres1).1
    clear hresN hbN hb1 hyes hnot hb0
    have hone := sh_one ((byteAt t 1).toNat : Int) ((byteAt t 2).toNat : Int) K M O S z i q
    have hbu := sh_build ((byteAt t 1).toNat : Int) ((byteAt t 2).toNat : Int) K M O S z i q
    have hresB : (w1.alloc (.cells (pkC K M O S z i q) 142)).heap[w.heap.size]? = some (.cells sh0 151 (0, 0)) := by rw [heap_alloc_old _ _ hrl]; exact hres1
    have hbB : Below w.heap.size w (w1.alloc (.cells (pkC K M O S z i q) 142)) := hbw1.alloc hbw1.size _
    have hpkB : (w1.alloc (.cells (pkC K M O S z i q) 142)).heap[w1.heap.size]? = some (.cells (pkC K M O S z i q) 142 (0, 0)) := heap_alloc_new w1 _
    have hf1 := setRow_heap _ _ _ (shC ((byteAt t 1).toNat : Int) ((byteAt t 2).toNat : Int) K M O S z i q) _ _ hresB
    have hf2 : Below w.heap.size w ((w1.alloc (.cells (pkC K M O S z i q) 142)).setRow w.heap.size (shC ((byteAt t 1).toNat : Int) ((byteAt t 2).toNat : Int) K M O S z i q)) := ((Chg.of_below hbB (fun _ => False)).setRow (Or.inl (Nat.le_refl _)) _).below (fun _ _ f => f)
    have HF1 := hide hf1
    have HF2 := hide hf2
    have HR := hide hresB
    have HP := hide hpk
    clear hf1 hf2 hresB hbB hbw1 hres1 hpk
    go_upto_region 9 with fail
    generalize w1.alloc (.cells (pkC K M O S z i q) 142) = U at *
    obtain ⟨c0, c1, c2, c3, c4, c5, c6⟩ := pk_cells hpkB
    go_wp2_with (first | (refine wpList_store_row rfl 151 (.tmp 2) (.tmp 43) rfl w.heap.size (shC ((byteAt t 1).toNat : Int) ((byteAt t 2).toNat : Int) K M O S z i q) rfl rfl 151 sh0 HR.out Tryz.sizeSh rfl hone ?_))
    exact bodyPost_ret (results_lread _ _ w.heap.size _ _ K M O S z i _ _ rfl HF1.out) rfl ⟨⟨fun _ => rfl, fun h => absurd HP.out h⟩, HF2.out⟩
  · go_wp2_with (rw [HE.out])
    refine (hnot _ hpk).mono ?_
    rintro e w1 ⟨rfl, hb1⟩
    have hres1 := block_on hresN hb1
    have hbw1 := hbN.trans (hb1.mono hbN.size)
    have hrl := (Array.getElem?_eq_some_iff.1 hres1).1
    clear hresN hbN hb1 hyes hnot
    have hresB : (w1.alloc (.cells pk0 142)).heap[w.heap.size]? = some (.cells sh0 151 (0, 0)) := by rw [heap_alloc_old _ _ hrl]; exact hres1
    have hbB : Below w.heap.size w (w1.alloc (.cells pk0 142)) := hbw1.alloc hbw1.size _
    have hf1 := setRow_heap _ _ _ sh0 _ _ hresB
    have hf2 : Below w.heap.size w ((w1.alloc (.cells pk0 142)).setRow w.heap.size sh0) := ((Chg.of_below hbB (fun _ => False)).setRow (Or.inl (Nat.le_refl _)) _).below (fun _ _ f => f)
    have HF1 := hide hf1
    have HF2 := hide hf2
    have HR := hide hresB
    have HP := hide hpk
    clear hf1 hf2 hresB hbB hbw1 hres1 hpk
    go_upto_region 7 with fail
    generalize w1.alloc (.cells pk0 142) = U at *
    go_wp2_with (first | (refine wpList_store_row rfl 151 (.tmp 2) (.tmp 39) rfl w.heap.size sh0 rfl rfl 151 sh0 HR.out Tryz.sizeSh rfl hone0 ?_))
    exact bodyPost_ret (results_lread _ _ w.heap.size 0 0 0 0 0 0 0 0 _ _ rfl HF1.out) rfl ⟨⟨fun h => absurd h HP.out, fun _ => rfl⟩, HF2.out⟩

theorem lread_yes (t : ByteArray) (w : World) (h : headOk t) (hp : PacketOk (tQ t)) :
    Calls Tryz.prog 97 #[.string t] w fun e w' => e = .returned (.tuple #[.agg (shC (tP t : Int) (tN t : Int) (rK (tQ t)) (rM (tQ t)) (rO (tQ t)) (rS (tQ t)) (rZ (tQ t)) (rI (tQ t)) (rQ (tQ t))), .bool true]) ∧ Below w.heap.size w w' := by
  obtain ⟨h4, h0, h1, h2, h3⟩ := h
  exact (lread_packet t w ⟨by omega, h0, h1, h2, h3⟩).mono fun e w' hh => ⟨hh.1.1 hp, hh.2⟩

theorem lread_not (t : ByteArray) (w : World) (h : ¬ (headOk t ∧ PacketOk (tQ t))) :
    Calls Tryz.prog 97 #[.string t] w fun e w' => e = .returned (.tuple #[.agg sh0, .bool false]) ∧ Below w.heap.size w w' := by
  by_cases h3 : 3 ≤ t.size
  · by_cases h0 : byteAt t 0 = 83
    · by_cases h1 : 20 < tN t ∨ (tN t ≤ 20 ∧ tN t ≤ tP t)
      · exact lread_head t w (Or.inr (Or.inr ⟨h3, h0, h1⟩))
      · refine (lread_packet t w ⟨h3, h0, by omega, by omega, by omega⟩).mono fun e w' hh => ⟨hh.1.2 (fun hp => h ⟨⟨?_, h0, by omega, by omega, by omega⟩, hp⟩), hh.2⟩
        have hs : (tQ t).size = t.size - 3 := by unfold tQ; rw [ByteArray.size_extract]; omega
        have := hp.1
        omega
    · exact lread_head t w (Or.inr (Or.inl ⟨h3, h0⟩))
  · exact lread_head t w (Or.inl (by omega))

end Go.Proofs.YtnjaofkieajnlaaGreat

/- The program's inbox: a further sheet. -/
namespace Go.Proofs.YtnjaofkieajnlaaGreat
open Go.RowKit

theorem sh_cells {w : World} {g : Nat} {a c K M O S z i : Int} {q : ByteArray} {t : TypeId} (h : w.heap[g]? = some (.cells (shC a c K M O S z i q) t (0, 0))) :
    w.cell? ⟨g, 0, none⟩ = some (.int .i64 a) ∧ w.cell? ⟨g, 1, none⟩ = some (.int .i64 c) ∧ w.cell? ⟨g, 2, none⟩ = some (.int .i64 K) ∧ w.cell? ⟨g, 3, none⟩ = some (.int .i64 M) ∧ w.cell? ⟨g, 4, none⟩ = some (.int .i64 O) ∧ w.cell? ⟨g, 5, none⟩ = some (.int .i64 S) ∧ w.cell? ⟨g, 6, none⟩ = some (.int .i64 z) ∧ w.cell? ⟨g, 7, none⟩ = some (.int .i64 i) ∧ w.cell? ⟨g, 8, none⟩ = some (.string q) := by
  refine ⟨?_, ?_, ?_, ?_, ?_, ?_, ?_, ?_, ?_⟩ <;> rw [cell_of_row _ _ _ _ _ _ h] <;> rfl

abbrev shB (a c K M O S z i : Int) (q : ByteArray) : Obj := .cells (shC a c K M O S z i q) 151
abbrev pkB (K M O S z i : Int) (q : ByteArray) : Obj := .cells (pkC K M O S z i q) 142

set_option maxRecDepth 100000 in
set_option maxHeartbeats 4000000 in
theorem lnext_other (p : Nat) (tt : TypeId) (c K M O S z m : Nat) (ks : Nat → Kn) (a c' K' M' O' S' z' i : Nat) (q : ByteArray) (w : World) (hc : InbAt w p tt c K M O S z m ks) (hno : ¬ (K' = K ∧ M' = M ∧ O' = O ∧ S' = S ∧ z' = z ∧ c' = c)) :
    Calls Tryz.prog 99 #[.pointer (some ⟨p, 0, none⟩), .agg (shC a c' K' M' O' S' z' i q)] w fun e w' => e = .returned (.int .i64 7) ∧ Below w.heap.size w w' := by
  have hbA : Below w.heap.size w ((w.alloc (shB a c' K' M' O' S' z' i q)).alloc (pkB K' M' O' S' z' i q)) := ((Below.refl _ _).alloc (Nat.le_refl _) _).alloc (by simp) _
  have hcA := hc.on (Nat.le_refl _) hbA
  have hsh := sh_cells (show ((w.alloc (shB a c' K' M' O' S' z' i q)).alloc (pkB K' M' O' S' z' i q)).heap[w.heap.size]? = some (.cells (shC a c' K' M' O' S' z' i q) 151 (0, 0)) by rw [heap_alloc_old _ _ (by simp)]; exact heap_alloc_new w _)
  have hpk := pk_cells (show ((w.alloc (shB a c' K' M' O' S' z' i q)).alloc (pkB K' M' O' S' z' i q)).heap[w.heap.size + 1]? = some (.cells (pkC K' M' O' S' z' i q) 142 (0, 0)) by have := heap_alloc_new (w.alloc (shB a c' K' M' O' S' z' i q)) (pkB K' M' O' S' z' i q); simpa using this)
  go_enter Tryz.func99, Tryz.ntmps99
  go_upto_region 2 with fail
  generalize (w.alloc (shB a c' K' M' O' S' z' i q)).alloc (pkB K' M' O' S' z' i q) = W at *
  obtain ⟨d0, d1, d2, d3, d4, d5⟩ := hcA.head
  obtain ⟨c0, c1, c2, c3, c4, c5, c6⟩ := hpk
  obtain ⟨s0, s1, _⟩ := hsh
  have hbf : ∀ n, Below w.heap.size w (W.drewN n) := fun n => hbA.trans ⟨rfl, rfl, rfl, Nat.le_refl _, fun _ _ => rfl⟩
  clear hc hcA hbA
  by_cases e1 : K' = K ∧ M' = M ∧ O' = O ∧ S' = S
  · by_cases e2 : z' = z
    · have hzz : ((c' : Int) != (c : Int)) = true := by simp; intro e; exact hno ⟨e1.1, e1.2.1, e1.2.2.1, e1.2.2.2, e2, by omega⟩
      obtain ⟨rfl, rfl, rfl, rfl⟩ := e1
      subst e2
      clear hno
      go_quiet (fail)
      go_wp2_with fail
      go_ret
      exact ⟨rfl, hbf _⟩
    · have hzz : ((z' : Int) != (z : Int)) = true := by simp; omega
      obtain ⟨rfl, rfl, rfl, rfl⟩ := e1
      clear hno e2
      go_quiet (fail)
      go_wp2_with fail
      go_ret
      exact ⟨rfl, hbf _⟩
  · have hor : ((K' : Int) == (K : Int)) = false ∨ (K' = K ∧ ((M' : Int) == (M : Int)) = false) ∨ (K' = K ∧ M' = M ∧ ((O' : Int) == (O : Int)) = false) ∨ (K' = K ∧ M' = M ∧ O' = O ∧ ((S' : Int) == (S : Int)) = false) := by
      simp only [beq_eq_false_iff_ne, ne_eq, Int.natCast_inj]
      omega
    clear hno e1
    rcases hor with h | ⟨rfl, h⟩ | ⟨rfl, rfl, h⟩ | ⟨rfl, rfl, rfl, h⟩
    all_goals
      go_quiet (fail)
      go_wp2_with fail
      go_ret
      exact ⟨rfl, hbf _⟩

set_option maxRecDepth 100000 in
set_option maxHeartbeats 4000000 in
theorem lnext_put (p : Nat) (tt : TypeId) (c K M O S z m : Nat) (ks : Nat → Kn) (a i : Nat) (q : ByteArray) (w : World) (ha : a < m) (ha2 : a < 20) (hK : K ≤ 20) (hM : M ≤ 20) (hkn : KnOk K z (ks a)) (hz : z ≤ 16) (hi : i < K + M) (hq : q.size = z) (hc : InbAt w p tt c K M O S z m ks) :
    Calls Tryz.prog 99 #[.pointer (some ⟨p, 0, none⟩), .agg (shC a c K M O S z i q)] w fun e w' => e = .returned (.int .i64 (putE (left (ks a) (ofs K M O S i) q) z)) ∧ InbAt w' p tt c K M O S z m (fun j => if j = a then putK (ks a) (ofs K M O S i) q else ks j) ∧ Chg (fun k => k = p) w w' := by
  have hbA : Chg (fun k => k = p) w ((w.alloc (shB a c K M O S z i q)).alloc (pkB K M O S z i q)) := ((Chg.refl _ _).alloc _).alloc _
  have hbB : Below w.heap.size w ((w.alloc (shB a c K M O S z i q)).alloc (pkB K M O S z i q)) := ((Below.refl _ _).alloc (Nat.le_refl _) _).alloc (by simp) _
  have hcA := hc.on (Nat.le_refl _) hbB
  have hsz : ((w.alloc (shB a c K M O S z i q)).alloc (pkB K M O S z i q)).heap.size = w.heap.size + 2 := by simp
  have hsh := sh_cells (show ((w.alloc (shB a c K M O S z i q)).alloc (pkB K M O S z i q)).heap[w.heap.size]? = some (.cells (shC a c K M O S z i q) 151 (0, 0)) by rw [heap_alloc_old _ _ (by simp)]; exact heap_alloc_new w _)
  have hpk := pk_cells (show ((w.alloc (shB a c K M O S z i q)).alloc (pkB K M O S z i q)).heap[w.heap.size + 1]? = some (.cells (pkC K M O S z i q) 142 (0, 0)) by have := heap_alloc_new (w.alloc (shB a c K M O S z i q)) (pkB K M O S z i q); simpa using this)
  have hpl := hc.lt
  have hput : ∀ W, BoxOff W p (6 + a * 83) 1666 tt (inbCell c K M O S z m ks) K (K + M) z (ofs K M O S) (ks a) → Calls Tryz.prog 52 #[.pointer (some ⟨p, 6 + a * 83, none⟩), .int .i64 (i : Int), .string q] W fun e w' => e = .returned (.int .i64 (putE (left (ks a) (ofs K M O S i) q) z)) ∧ InbAt w' p tt c K M O S z m (fun j => if j = a then putK (ks a) (ofs K M O S i) q else ks j) ∧ Chg (fun k => k = p) W w' := fun W hW =>
    (qput_ok p (6 + a * 83) 1666 tt _ K (K + M) z i q (ofs K M O S) (ks a) W hK hkn (ofs_lt K M O S) (by omega) (by omega) hi hq hW).mono fun e w' ⟨h1, h2, h3⟩ => ⟨h1, InbAt.of_box ha h2, h3⟩
  obtain ⟨ee, he⟩ : ∃ ee, ee = putE (left (ks a) (ofs K M O S i) q) z := ⟨_, rfl⟩
  obtain ⟨k2, hk2⟩ : ∃ k2 : Nat → Kn, k2 = fun j => if j = a then putK (ks a) (ofs K M O S i) q else ks j := ⟨_, rfl⟩
  rw [← he, ← hk2] at hput ⊢
  have a1 : (0 : Int) ≤ (a : Int) := by omega
  have a2 : (a : Int) < 20 := by omega
  clear he hk2
  go_enter Tryz.func99, Tryz.ntmps99
  go_upto_region 2 with fail
  generalize (w.alloc (shB a c K M O S z i q)).alloc (pkB K M O S z i q) = W at *
  obtain ⟨d0, d1, d2, d3, d4, d5⟩ := hcA.head
  obtain ⟨c0, c1, c2, c3, c4, c5, c6⟩ := hpk
  obtain ⟨s0, s1, _⟩ := hsh
  have hbox := hcA.box ha ha2
  clear hc hcA hbB
  go_quiet (fail)
  have hboxN : BoxOff (W.drewN nq) p (6 + a * 83) 1666 tt (inbCell c K M O S z m ks) K (K + M) z (ofs K M O S) (ks a) := hbox
  have c5N : (W.drewN nq).cell? ⟨w.heap.size + 1, 5, none⟩ = some (.int .i64 (i : Int)) := c5
  have c6N : (W.drewN nq).cell? ⟨w.heap.size + 1, 6, none⟩ = some (.string q) := c6
  have s0N : (W.drewN nq).cell? ⟨w.heap.size, 0, none⟩ = some (.int .i64 (a : Int)) := s0
  have hbN := hbA.drewN nq
  have hszN : (W.drewN nq).heap.size = w.heap.size + 2 := hsz
  generalize W.drewN nq = V at *
  clear c0 c1 c2 c3 c4 c5 c6 hbox hbA d0 d1 d2 d3 d4 d5 hsz s0 s1
  have hboxD : BoxOff V.drew p (6 + a * 83) 1666 tt (inbCell c K M O S z m ks) K (K + M) z (ofs K M O S) (ks a) := hboxN
  go_wp2_with fail
  go_region_held3 (fun w' => w'.cell? ⟨w.heap.size, 0, none⟩ = some (.int .i64 (a : Int)) ∧ w'.cell? ⟨w.heap.size + 1, 5, none⟩ = some (.int .i64 (i : Int)) ∧ w'.cell? ⟨w.heap.size + 1, 6, none⟩ = some (.string q))
    (first | (exact ⟨s0N, c5N, c6N⟩) | (exact ⟨j2, j0, j1⟩) | go_keep)
    (first
      | (go_at_call 52; refine (hput _ (by first | exact hboxD | exact hboxN)).mono ?_; rintro e w2 ⟨rfl, hc2, hcg2⟩; have hne : w.heap.size ≠ p := (by omega); have hne1 : w.heap.size + 1 ≠ p := (by omega); have j0 := (hcg2.cell (a := ⟨w.heap.size + 1, 5, none⟩) (show w.heap.size + 1 < V.heap.size by omega) hne1).trans c5N; have j1 := (hcg2.cell (a := ⟨w.heap.size + 1, 6, none⟩) (show w.heap.size + 1 < V.heap.size by omega) hne1).trans c6N; have j2 := (hcg2.cell (a := ⟨w.heap.size, 0, none⟩) (show w.heap.size < V.heap.size by omega) hne).trans s0N))
  all_goals
    have hend := (hbN.drew.trans hcg2 (fun k _ h => h))
    clear hcg2 hboxN hboxD c5N c6N s0N hput
    go_wp2_with fail
    go_ret
    exact ⟨rfl, hc2, hend⟩

end Go.Proofs.YtnjaofkieajnlaaGreat
