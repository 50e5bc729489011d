/- Texts of the proof, part 7. -/
import Derived.Laws.CopyOwn
import Derived.Test.YtnjaofkieajnlabPostedG1
import Derived.Test.YtnjaofkieajnlabPostedG5

/- Whether pieces are of one size that may be: the program's sizeOf and the document's Shaped; and sameTexts. -/
namespace Go.Proofs.Ytnjaofkieajnlab
open Go.RowKit

/-- There are n pieces, all of one size from 1 to 16. -/
def Shaped (l : List ByteArray) (n : Nat) : Prop := l.length = n ∧ ∀ k, k < l.length → (l.getD k ByteArray.empty).size = (l.getD 0 ByteArray.empty).size ∧ 1 ≤ (l.getD k ByteArray.empty).size ∧ (l.getD k ByteArray.empty).size ≤ 16

set_option maxRecDepth 100000 in
set_option maxHeartbeats 2000000 in
theorem sizeOf_any (v : Value) (l : List ByteArray) (n : Nat) (w : World) (hn : 1 ≤ n ∧ n ≤ 1000) (hl : l.length ≤ 8796093022208) (ht : TextsAt w v l) :
    Calls Try.prog 64 #[v, .int .i64 (n : Int)] w fun e w' => (∃ r : Nat, e = .returned (.int .i64 (r : Int)) ∧ (Shaped l n → r = (l.getD 0 ByteArray.empty).size ∧ 1 ≤ r ∧ r ≤ 16) ∧ (¬ Shaped l n → r = 0)) ∧ w' = w := by
  obtain ⟨ao, cap, rfl, hcap, hc⟩ := ht
  by_cases hln : l.length = n
  · subst hln
    have hl0 : 0 < l.length := by omega
    obtain ⟨q, o, rfl, hq, hc0⟩ := hc 0 hl0
    have hcells : ∀ k, k < l.length → w.cell? ⟨q, o + k, none⟩ = some (.string (l.getD k ByteArray.empty)) := fun k hk => by
      obtain ⟨q', o', he, _, hcell⟩ := hc k hk
      simp at he
      obtain ⟨rfl, rfl⟩ := he
      exact hcell
    have HC := hide hcells
    have hsh : Hid (Shaped l l.length ↔ ∀ k, k < l.length → (l.getD k ByteArray.empty).size = (l.getD 0 ByteArray.empty).size ∧ 1 ≤ (l.getD k ByteArray.empty).size ∧ (l.getD k ByteArray.empty).size ≤ 16) := hide ⟨fun h => h.2, fun h => ⟨rfl, h⟩⟩
    clear hc hcells
    simp only [Nat.add_zero] at hc0
    generalize hp : l.getD 0 ByteArray.empty = p at *
    have Hp := hide hp
    clear hp
    by_cases h16 : 16 < p.size
    · have hno : ¬ Shaped l l.length := fun h => by have := (hsh.out.1 h) 0 hl0; rw [Hp.out] at this; omega
      have Hno := hide hno
      clear hno
      go_enter Try.func64, Try.ntmps64
      go_wp2
      go_ret
      exact ⟨⟨0, rfl, fun h => absurd h Hno.out, fun _ => rfl⟩, rfl⟩
    · have h16' : p.size ≤ 16 := by omega
      go_enter Try.func64, Try.ntmps64
      go_wp2
      clear hc0
      go_loop [24] (fun i => ∃ k : Nat, k ≤ l.length ∧ i = .int .i64 k ∧ ∀ j, j < k → (l.getD j ByteArray.empty).size = p.size) (fun i => l.length - (intOf i).toNat)
      case atStart => exact ⟨0, Nat.zero_le _, rfl, fun j hj => by omega⟩
      case round =>
        obtain ⟨k, hk, rfl, hall⟩ := hrel
        have Hall := hide hall
        clear hall
        by_cases hlt : k < l.length
        · have hcell := HC.out k hlt
          generalize hx : l.getD k ByteArray.empty = x at *
          have Hx := hide hx
          clear hx
          by_cases he : x.size = p.size
          · have hb : ((x.size : Int) != (p.size : Int)) = false := by simp [he]
            have He := hide he
            clear he
            go_wp2
            go_round
            case rel =>
              refine ⟨k + 1, by omega, by go_num, fun j hj => ?_⟩
              by_cases e : j = k
              · subst e; rw [Hx.out]; exact He.out
              · exact Hall.out j (by omega)
            case measure => simp [intOf]; omega
          · have hb : ((x.size : Int) != (p.size : Int)) = true := by simp; omega
            have hno : ¬ Shaped l l.length := fun h => by have := (hsh.out.1 h) k hlt; rw [Hx.out] at this; omega
            have Hno := hide hno
            clear hno he
            go_wp2
            go_ret
            exact ⟨⟨0, rfl, fun h => absurd h Hno.out, fun _ => rfl⟩, rfl⟩
        · have hkl : k = l.length := by omega
          go_wp2
          go_ret
          refine ⟨⟨p.size, rfl, fun h => ?_, fun h => ?_⟩, rfl⟩
          · have := (hsh.out.1 h) 0 hl0
            rw [Hp.out] at this
            exact ⟨rfl, this.2.1, this.2.2⟩
          · by_cases h1 : 1 ≤ p.size
            · exact absurd (hsh.out.2 (fun j hj => by have := Hall.out j (by omega); omega)) h
            · omega
  · have hno : ¬ Shaped l n := fun h => hln h.1
    have hb : ((l.length : Int) != (n : Int)) = true := by simp; omega
    have Hno := hide hno
    clear hno hln hc
    go_enter Try.func64, Try.ntmps64
    go_wp2
    go_ret
    exact ⟨⟨0, rfl, fun h => absurd h Hno.out, fun _ => rfl⟩, rfl⟩

end Go.Proofs.Ytnjaofkieajnlab

/- The document's Shaped; sameTexts says yes to two lists of the same texts; handed and still. -/
namespace Go.Proofs.Ytnjaofkieajnlab
open Go.RowKit

theorem texts_cells {w : World} {ao : Option Addr} {l : List ByteArray} {q o : Nat} (hc : ∀ k, k < l.length → ∃ q o, ao = some ⟨q, o, none⟩ ∧ q < w.heap.size ∧ w.cell? ⟨q, o + k, none⟩ = some (.string (l.getD k ByteArray.empty))) (he : ao = some ⟨q, o, none⟩) :
    ∀ k, k < l.length → w.cell? ⟨q, o + k, none⟩ = some (.string (l.getD k ByteArray.empty)) := fun k hk => by
  obtain ⟨q', o', he', _, hcell⟩ := hc k hk
  rw [he] at he'
  simp at he'
  obtain ⟨rfl, rfl⟩ := he'
  exact hcell

/-- The answer tells whether p. -/
def Tells (p : Prop) (e : Ending) : Prop := ∃ b, e = .returned (.bool b) ∧ (p → b = true) ∧ (¬ p → b = false)

end Go.Proofs.Ytnjaofkieajnlab

/- handed and still: a list that is handed over with eight marks in its spare room, and the look whether it stands as it did. -/
namespace Go.Proofs.Ytnjaofkieajnlab
open Go.RowKit

/-- The mark. -/
abbrev markB : ByteArray := ⟨#[109, 97, 114, 107]⟩

/-- Text i of a list that is being handed over, k marks behind it. -/
def handedAt (l : List ByteArray) (k i : Nat) : ByteArray := if i < l.length then l.getD i ByteArray.empty else if i < l.length + k then markB else ByteArray.empty

theorem handedAt_step (l : List ByteArray) (k i : Nat) : (if i = l.length + k then markB else handedAt l k i) = handedAt l (k + 1) i := by
  unfold handedAt
  by_cases h1 : i < l.length
  · rw [if_neg (by omega), if_pos h1, if_pos h1]
  · rw [if_neg h1, if_neg h1]
    by_cases e : i = l.length + k
    · rw [if_pos e, if_pos (show i < l.length + (k + 1) from by omega)]
    · rw [if_neg e]
      by_cases h2 : i < l.length + k
      · rw [if_pos h2, if_pos (by omega)]
      · rw [if_neg h2, if_neg (by omega)]

theorem handedAt_in (l : List ByteArray) (k i : Nat) (h : i < l.length) : handedAt l k i = l.getD i ByteArray.empty := by simp [handedAt, h]
theorem handedAt_mark (l : List ByteArray) (k i : Nat) (h : i < k) : handedAt l k (l.length + i) = markB := by
  unfold handedAt
  rw [if_neg (by omega), if_pos (by omega)]

/-- A list with eight marks behind it lies in block g. -/
abbrev HandedAt (w : World) (g : Nat) (l : List ByteArray) : Prop := w.rowIs g 9 (l.length + 8) (fun i => .string (handedAt l 8 i))

theorem HandedAt.texts {w : World} {g : Nat} {l : List ByteArray} (h : HandedAt w g l) : TextsAt w (.slice (some ⟨g, 0, none⟩) l.length (l.length + 8)) l :=
  ⟨_, _, rfl, by omega, fun k hk => ⟨g, 0, rfl, h.lt, by rw [Nat.zero_add, h.cell (by omega), handedAt_in l 8 k hk]⟩⟩

theorem splice_row {w : World} {g : Nat} {l : List ByteArray} (h : w.heap[g]? = some (.cells (splice (madeCells #[Value.string ByteArray.empty] (l.length + 8)).toList 0 (l.map Value.string)).toArray 9 (0, 0))) :
    w.rowIs g 9 (l.length + 8) (fun i => .string (handedAt l 0 i)) := by
  refine ⟨_, h, ?_, fun i hi => ?_⟩
  · rw [List.size_toArray, length_splice _ _ _ (by simp [size_madeCells])]; simp [size_madeCells]
  · rw [List.getElem?_toArray]
    unfold splice handedAt
    show _ = some (Value.string (if i < l.length then l.getD i ByteArray.empty else if i < l.length + 0 then markB else ByteArray.empty))
    rw [List.take_zero, List.nil_append, List.getElem?_append]
    by_cases h1 : i < l.length
    · rw [if_pos (by simpa using h1), if_pos h1]
      simp [h1]
    · rw [if_neg (by simpa using h1), if_neg h1, if_neg (by omega)]
      rw [List.getElem?_drop, Array.getElem?_toList]
      have e : 0 + (l.map Value.string).length + (i - (l.map Value.string).length) = i := by simp; omega
      rw [e]
      simp [madeCells, hi, Nat.mod_one]

theorem copy_run (l : List ByteArray) (ao : Option Addr) (cap : Nat) (w : World) (hc : ∀ k, k < l.length → ∃ q o, ao = some ⟨q, o, none⟩ ∧ q < w.heap.size ∧ w.cell? ⟨q, o + k, none⟩ = some (.string (l.getD k ByteArray.empty))) :
    ∃ W1, (∀ ty, (Builtin.copy_ #[27, 27] ty #[.slice (some ⟨w.heap.size, 0, none⟩) (l.length + 8) (l.length + 8), .slice ao l.length cap]).run Try.prog (w.alloc (.cells (madeCells #[.string ByteArray.empty] (l.length + 8)) 9)) = .ok (goInt l.length) W1) ∧
      W1.rowIs w.heap.size 9 (l.length + 8) (fun i => .string (handedAt l 0 i)) ∧ Below w.heap.size w W1 := by
  have hsz1 : (Try.prog.info? 9).map (·.size) = some 1 := by kernel_rfl
  by_cases h0 : l.length = 0
  · have hl : l = [] := List.eq_nil_of_length_eq_zero h0
    subst hl
    refine ⟨_, fun ty => run_copy_none (P := Try.prog) _ 27 27 ty 9 _ ao _ _ _ _ Try.underlying27 hsz1 (by simp), ?_, (Below.refl _ _).alloc (Nat.le_refl _) _⟩
    refine (World.rowIs_made w (.string ByteArray.empty) ([].length + 8) 9).congr (fun i _ => ?_)
    simp [handedAt]
  · obtain ⟨q, o, rfl, hq, _⟩ := hc 0 (by omega)
    have hcells := texts_cells hc rfl
    have hrun := fun ty => run_copy_row (P := Try.prog) (w.alloc (.cells (madeCells #[.string ByteArray.empty] (l.length + 8)) 9)) 27 27 ty 9 w.heap.size 0 (l.length + 8) (l.length + 8) ⟨q, o, none⟩ l.length cap (madeCells #[.string ByteArray.empty] (l.length + 8)) 9 (l.map Value.string) Try.underlying27 hsz1 (heap_alloc_new w _) (by simp) (fun j v hj => by
      have hjl : j < l.length := by have := (List.getElem?_eq_some_iff.1 hj).1; simpa using this
      rw [Addr.add_mid, World.cell?_alloc_lt _ _ _ (by exact hq), hcells j hjl]
      rw [List.getElem?_map, List.getElem?_eq_getElem hjl] at hj
      simp at hj
      subst hj
      simp [hjl]) (by simp [size_madeCells]) (fun v hv => by
      obtain ⟨x, _, rfl⟩ := List.mem_map.1 hv
      rfl)
    simp only [List.length_map] at hrun
    refine ⟨_, hrun, ?_, below_setRow ((Below.refl _ _).alloc (Nat.le_refl _) _) (Nat.le_refl _) _⟩
    refine splice_row ?_
    rw [setRow_heap _ _ _ _ _ _ (heap_alloc_new w _)]
    simp [splice]

end Go.Proofs.Ytnjaofkieajnlab

/- Rowed: for every specification the program's Rows answers as the document asks. -/
namespace Go.Proofs.Ytnjaofkieajnlab
open Go.RowKit

theorem may_nats {K M O S : Int} (h : mayB K M O S = true) : ∃ k m o s : Nat, K = k ∧ M = m ∧ O = o ∧ S = s ∧ (1 ≤ k ∧ k ≤ 20) ∧ (1 ≤ m ∧ m ≤ 20) ∧ (1 ≤ o ∧ o ≤ m) ∧ s ≤ 65535 := by
  have hh := mayB_true h
  exact ⟨K.toNat, M.toNat, O.toNat, S.toNat, by omega, by omega, by omega, by omega, by omega, by omega, by omega, by omega⟩

theorem block_on {w w1 : World} {h : Nat} {o : Obj} (hs : w.heap[h]? = some o) (hb : Below w.heap.size w w1) : w1.heap[h]? = some o := by
  rw [hb.block h (Array.getElem?_eq_some_iff.1 hs).1]; exact hs

/-- The cells of a specification of whatever numbers. -/
theorem spec_cellsI {w : World} {h : Nat} {K M O S : Int} (hs : w.heap[h]? = some (.cells #[.int .i64 K, .int .i64 M, .int .i64 O, .int .i64 S] 24 (0, 0))) :
    w.cell? ⟨h, 0, none⟩ = some (.int .i64 K) ∧ w.cell? ⟨h, 1, none⟩ = some (.int .i64 M) ∧ w.cell? ⟨h, 2, none⟩ = some (.int .i64 O) ∧ w.cell? ⟨h, 3, none⟩ = some (.int .i64 S) := by
  refine ⟨?_, ?_, ?_, ?_⟩ <;> (rw [cell_of_row _ _ _ _ _ _ hs]; rfl)

end Go.Proofs.Ytnjaofkieajnlab

/- What the program's Spare does: the spare pieces of the word in new memory, or an error. -/
namespace Go.Proofs.Ytnjaofkieajnlab
open Go.RowKit

/-- Texts as values. -/
def textV (l : List ByteArray) : List Value := l.map Value.string

theorem textV_append (a b : List ByteArray) : textV (a ++ b) = textV a ++ textV b := by simp [textV]
theorem textV_length (l : List ByteArray) : (textV l).length = l.length := by simp [textV]

theorem textV_get (l : List ByteArray) (k : Nat) (h : k < l.length) : (textV l)[k]? = some (.string (l.getD k ByteArray.empty)) := by
  simp [textV, h]

theorem textV_one (l : List ByteArray) : ∀ u ∈ textV l, u.oneCell' = true := fun u hu => by
  obtain ⟨x, _, rfl⟩ := List.mem_map.1 hu
  rfl

/-- A slice of texts that is owned reads as texts. -/
theorem owns_texts {w : World} {base n : Nat} {v : Value} {l : List ByteArray} (h : w.ownsRow base 9 1 v n (textV l)) (hn : n = l.length) : TextsAt w v l := by
  subst hn
  rcases h.2 with ⟨rfl, hn⟩ | ⟨g, cap, cur, rfl, _, hg, hc, _, _, ht⟩
  · have : l = [] := List.eq_nil_of_length_eq_zero hn
    subst this
    exact ⟨none, 0, rfl, Nat.le_refl _, fun k hk => by simp at hk⟩
  · refine ⟨_, cap, rfl, hc, fun k hk => ⟨g, 0, rfl, (Array.getElem?_eq_some_iff.1 hg).1, ?_⟩⟩
    rw [cell_of_row _ _ _ _ _ _ hg, Nat.zero_add]
    have h1 := textV_get l k hk
    rw [← ht, List.getElem?_take] at h1
    rw [if_pos (by omega)] at h1
    simpa using h1

theorem run_make_texts (n : Nat) (hn : n ≤ 1000000) (w : World) : (Instr.makeSlice 27 (.int .i64 0) (.int .i64 (n : Int))).run Try.prog w = .ok (.slice (some ⟨w.heap.size, 0, none⟩) 0 n) (w.alloc (.cells (madeCells #[.string ByteArray.empty] n) 9)) := by
  obtain ⟨i, hi, hzz⟩ := Option.map_eq_some_iff.1 Try.infoText
  simp only [Prod.mk.injEq] at hzz
  obtain ⟨hz, hs, hb⟩ := hzz
  have h := run_make (P := Try.prog) w 27 9 i (.string ByteArray.empty) Try.underlying27 hi hz .i64 .i64 0 (n : Int) (by omega) (by omega) (by rw [hb]; omega) (by omega)
  simp only [Int.toNat_natCast, hs, Nat.mul_one] at h
  exact h

/-- The cells of a list of texts, as the law of append asks them. -/
theorem texts_news {w : World} {q o : Nat} {l : List ByteArray} (hc : ∀ k, k < l.length → w.cell? ⟨q, o + k, none⟩ = some (.string (l.getD k ByteArray.empty))) : ∀ j u, (textV l)[j]? = some u → w.cell? ((⟨q, o, none⟩ : Addr).add j) = some u := fun j u hu => by
  have hj : j < l.length := by have := (List.getElem?_eq_some_iff.1 hu).1; rwa [textV_length] at this
  rw [Addr.add_mid, hc j hj]
  rw [textV_get l j hj] at hu
  exact hu

/-- Where word.Spare stands behind i rows. -/
structure SpAt (W wr : World) (K : Nat) (kn : List ByteArray) (i : Nat) (v9 v10 : Value) : Prop where
  known : wr.ownsRow W.heap.size 9 1 v9 (K + i) (textV kn)
  spare : wr.ownsRow W.heap.size 9 1 v10 i (textV (kn.drop K))
  apart : ∀ k, v9.ownBlock = some k → v10.ownBlock ≠ some k
  below : Below W.heap.size W wr

theorem owns_below {w w1 : World} {base : Nat} {e : TypeId} {size : Nat} {v : Value} {n : Nat} {xs : List Value} (h : w.ownsRow base e size v n xs) (hb : Below w.heap.size w w1) : w1.ownsRow base e size v n xs :=
  owns_of_block h (fun k hk => hb.block k (h.lt k hk).2)

theorem SpAt.on {W wr w1 : World} {K i : Nat} {kn : List ByteArray} {v9 v10 : Value} (h : SpAt W wr K kn i v9 v10) (hb : Below wr.heap.size wr w1) : SpAt W w1 K kn i v9 v10 :=
  ⟨owns_below h.known hb, owns_below h.spare hb, h.apart, h.below.trans (hb.mono h.below.size)⟩

/-- Behind the first append the spare pieces are owned as they were. -/
theorem SpAt.mid {W wr w1 : World} {K i : Nat} {kn : List ByteArray} {v9 v10 : Value} {o : Obj} (h : SpAt W wr K kn i v9 v10) (hg : (wr.alloc o).grownBy w1 v9.ownBlock) : w1.ownsRow W.heap.size 9 1 v10 i (textV (kn.drop K)) :=
  owns_of_block h.spare (fun k hk => (grownBy_of_alloc hg).block k (h.spare.lt k hk).2 (fun e => h.apart k e.symm hk))

theorem SpAt.step {W wr w1 w2 : World} {K i g1 g2 c1 c2 n1 n2 : Nat} {kn : List ByteArray} {t : ByteArray} {v9 v10 : Value} {o1 o2 : Obj} {xs1 xs2 : List Value} (h : SpAt W wr K kn i v9 v10) (hkn : kn.length = K + i)
    (hg1 : (wr.alloc o1).grownBy w1 v9.ownBlock) (hw1 : w1.ownsRow W.heap.size 9 1 (.slice (some ⟨g1, 0, none⟩) n1 c1) n1 xs1) (hx1 : xs1 = textV kn ++ [.string t]) (hn1 : n1 = K + i + 1) (ha1 : v9.ownBlock = some g1 ∨ g1 = wr.heap.size + 1)
    (hg2 : (w1.alloc o2).grownBy w2 v10.ownBlock) (hw2 : w2.ownsRow W.heap.size 9 1 (.slice (some ⟨g2, 0, none⟩) n2 c2) n2 xs2) (hx2 : xs2 = textV (kn.drop K) ++ [.string t]) (hn2 : n2 = i + 1) (ha2 : v10.ownBlock = some g2 ∨ g2 = w1.heap.size + 1) :
    SpAt W w2 K (kn ++ [t]) (i + 1) (.slice (some ⟨g1, 0, none⟩) n1 c1) (.slice (some ⟨g2, 0, none⟩) n2 c2) := by
  subst hx1 hn1 hx2 hn2
  have hlt1 := hw1.lt g1 rfl
  have hsz1 := (grownBy_of_alloc hg1).size
  have hne : ∀ k, v10.ownBlock = some k → k ≠ g1 := fun k hk e => by
    subst e
    rcases ha1 with ha1 | ha1
    · exact h.apart k ha1 hk
    · have := (h.spare.lt k hk).2; omega
  have hws := h.below.size
  refine ⟨?_, ?_, ?_, ?_⟩
  · have h2 := owns_of_block (w' := w2) hw1 (fun k hk => (grownBy_of_alloc hg2).block k (hw1.lt k hk).2 (fun e => by
      simp [Value.ownBlock] at hk
      exact hne k e.symm hk.symm))
    rw [textV_append]; exact h2
  · rw [List.drop_append_of_le_length (by omega), textV_append]; exact hw2
  · intro k e1 e2
    simp [Value.ownBlock] at e1 e2
    rcases ha2 with ha2 | ha2
    · exact hne g2 ha2 (by omega)
    · omega
  · exact ((((Chg.of_below h.below (fun _ => False)).alloc _).grown hg1 (fun k e => Or.inl (h.known.lt k e).1)).alloc _ |>.grown hg2 (fun k e => Or.inl (h.spare.lt k e).1)).below (fun _ _ f => f)

theorem Shaped.sizes {l : List ByteArray} {n : Nat} (h : Shaped l n) : ∀ x ∈ l, x.size = (l.getD 0 ByteArray.empty).size := fun x hx => by
  obtain ⟨k, hk, rfl⟩ := List.mem_iff_getElem.1 hx
  have := (h.2 k hk).1
  rwa [List.getD_eq_getElem?_getD, List.getElem?_eq_getElem hk] at this

set_option maxRecDepth 100000 in
set_option maxHeartbeats 4000000 in
theorem wspare_ok (K M O S : Nat) (v : Value) (l : List ByteArray) (w : World) (hK : 1 ≤ K ∧ K ≤ 20) (hM : 1 ≤ M ∧ M ≤ 20) (hO : 1 ≤ O ∧ O ≤ M) (hS : S ≤ 65535) (hsh : Shaped l K) (ht : TextsAt w v l) :
    Calls Try.prog 41 #[specV K M O S, v] w fun e w' => ∃ v', e = .returned (.tuple #[v', .int .i64 0]) ∧ w'.ownsRow w.heap.size 9 1 v' M (textV (sparesOf K M O S l (l.getD 0 ByteArray.empty).size)) ∧ Below w.heap.size w w' := by
  have hlK := hsh.1
  have HT := hide ht
  have Hsh := hide hsh
  obtain ⟨ao, cap, rfl, hcap, hc⟩ := ht
  obtain ⟨q, o, rfl, hq, _⟩ := hc 0 (by omega)
  have hcells := texts_cells hc rfl
  have HC := hide hcells
  clear hsh hc hcells
  subst hlK
  have hmk1 : ∀ w, (Instr.makeSlice 27 (.int .i64 0) (.int .i64 ((l.length : Int) + (M : Int)))).run Try.prog w = .ok (.slice (some ⟨w.heap.size, 0, none⟩) 0 (l.length + M)) (w.alloc (.cells (madeCells #[.string ByteArray.empty] (l.length + M)) 9)) := fun w => by
    have h := run_make_texts (l.length + M) (by omega) w
    rw [show ((l.length + M : Nat) : Int) = (l.length : Int) + (M : Int) from by omega] at h
    exact h
  have hmk2 := run_make_texts M (by omega)
  obtain ⟨i0, hi, hz0, hz1, hz2⟩ := info_parts Try.infoText
  go_enter Try.func41, Try.ntmps41
  go_wp2_with fail
  refine (wrows_ok l.length M O S _ hK hM hO hS).mono ?_
  rintro e w1 ⟨g, rv, rfl, hr, hg, hb⟩
  have hs1 := block_on (heap_alloc_new w _) hb
  have hb1 : Below w.heap.size w w1 := ((Below.refl _ _).alloc (Nat.le_refl _) _).trans (hb.mono (by simp))
  simp only [World.size_alloc] at hg
  obtain ⟨c0, c1, c2, c3⟩ := spec_cellsI hs1
  clear hb
  go_wp2_with fail
  refine (sizeOf_any _ l l.length _ (by omega) (by omega) (HT.out.on hb1)).mono ?_
  rintro e w2 ⟨⟨r, rfl, hyes, _⟩, rfl⟩
  obtain ⟨hre, hr1, hr16⟩ := hyes Hsh.out
  have Hre := hide hre
  clear hyes hre
  have hc2 : ∀ k, k < l.length → (w2.alloc (.cells (madeCells #[.string ByteArray.empty] (l.length + M)) 9)).cell? ⟨q, o + k, none⟩ = some (.string (l.getD k ByteArray.empty)) := fun k hk => by
    rw [World.cell?_alloc_lt _ _ _ (by have := hb1.size; show q < _; omega), hb1.cell (p := ⟨q, o + k, none⟩) hq]; exact HC.out k hk
  have HN := hide (texts_news hc2)
  clear hc2
  have hr0 : ((r : Int) == 0) = false := by simp; omega
  have hm1 := World.ownsRow_made (base := w2.heap.size) (e := 9) (size := 1) w2 (madeCells #[.string ByteArray.empty] (l.length + M)) (l.length + M) (Nat.le_refl _) (by unfold maxLen; omega) (by simp [size_madeCells])
  go_wp2_with (at_builtin; refine wpList_append_lies _ rfl (.tmp 34) (.tmp 35) 27 rfl w2.heap.size 9 i0 (.string ByteArray.empty) 1 16 Try.underlying27 hi hz0 hz1 hz2 rfl (by decide) _ _ _ rfl hm1 ⟨q, o, none⟩ l.length cap (textV l) rfl (by rw [textV_length]; omega) HN.out (textV_one l) (by omega) (by unfold maxLen; omega) (by omega) (by simp) (w2.heap.size + 1) (by simp) ?_)
  intro g9 cap9 w3 hown9 hgr9 hat9 hlt9
  have hb3 : Below w2.heap.size w2 w3 := ((Below.refl _ _).alloc (Nat.le_refl _) _).grown hgr9 (by simp) (fun k e => by simp [Value.ownBlock] at e; omega)
  have hs3 := block_on hs1 hb3
  have hr3 := hr.below hb3
  have hsz3 := hb3.size
  clear c0 c1 c2 c3 hm1 hgr9 hat9 hs1
  obtain ⟨c0, c1, c2, c3⟩ := spec_cellsI hs3
  have hst : SpAt w2 (w3.alloc (.cells (madeCells #[.string ByteArray.empty] M) 9)) l.length (knownTo l (rowOf l.length M O S) r 0) 0 (.slice (some ⟨g9, 0, none⟩) l.length cap9) (.slice (some ⟨w3.heap.size, 0, none⟩) 0 M) := by
    refine ⟨hown9.alloc _, ?_, fun k e => ?_, hb3.alloc hsz3 _⟩
    · simp only [knownTo, List.drop_length]
      exact World.ownsRow_made w3 _ M hsz3 (by unfold maxLen; omega) (by simp [size_madeCells])
    · simp [Value.ownBlock] at e ⊢
      omega
  clear hown9
  go_wp2_with fail
  clear c0 c1 c2 c3 hs3 hmk1 hmk2
  go_loopw [9, 10, 42] (fun v9 v10 t wr => ∃ i : Nat, i ≤ M ∧ t = .int .i64 i ∧ SpAt w2 wr l.length (knownTo l (rowOf l.length M O S) r i) i v9 v10) (fun _ _ t _ => M - (intOf t).toNat)
  case atStart => exact ⟨0, Nat.zero_le _, rfl, hst⟩
  case round =>
    clear hst
    obtain ⟨i, hiM, rfl, hst⟩ := hrel
    by_cases hlt : i < M
    · have hrr := hr.below hst.below
      have hrc := hrr.cell hlt
      have hrl := rowOf_len l.length M O S i
      have hkl := knownTo_length l (rowOf l.length M O S) r i
      go_wp2_with fail
      refine (sum_any _ (rv i) (knownTo l (rowOf l.length M O S) r i) (rowOf l.length M O S i) r _ _ (by omega) (fun j hj => by have := rowOf_lt l.length M O S i j hj; omega) (by omega) (knownTo_size (fun x hx => ?hx) i) (hrr.own i hlt) (owns_texts hst.known hkl.symm)).mono ?_
      case hx => rw [Hre.out]; exact Hsh.out.sizes x hx
      rintro e w4 ⟨rfl, hb4⟩
      have hst4 := hst.on hb4
      have hks : knownTo l (rowOf l.length M O S) r (i + 1) = knownTo l (rowOf l.length M O S) r i ++ [sumB (knownTo l (rowOf l.length M O S) r i) (rowOf l.length M O S i) r] := rfl
      have Hks := hide hks
      generalize hkn : knownTo l (rowOf l.length M O S) r i = kn at *
      generalize htt : sumB kn (rowOf l.length M O S i) r = tt at *
      have hw4 := hst4.below.size
      have hkw := hst4.known
      clear hst hb4 hrr hrc hks hkn htt
      go_wp2_with (first | (at_builtin; refine wpList_append_lies _ rfl (.tmp 50) (.tmp 52) 27 rfl w2.heap.size 9 i0 (.string ByteArray.empty) 1 16 Try.underlying27 hi hz0 hz1 hz2 rfl (by decide) _ _ _ rfl (hkw.alloc _) ⟨w4.heap.size, 0, none⟩ 1 1 [.string tt] rfl rfl (one_news _ _ _) (one_oneCell rfl) (by decide) (by unfold maxLen; omega) (by omega) (by simp; omega) (w4.heap.size + 1) (by simp) ?_))
      intro g5 cap5 w5 hown5 hgr5 hat5 hlt5
      have hsp5 := hst4.mid hgr5
      have hw5 : w2.heap.size ≤ w5.heap.size := by have := (grownBy_of_alloc hgr5).size; omega
      go_wp2_with (first | (at_builtin; refine wpList_append_lies _ rfl (.tmp 54) (.tmp 56) 27 rfl w2.heap.size 9 i0 (.string ByteArray.empty) 1 16 Try.underlying27 hi hz0 hz1 hz2 rfl (by decide) _ _ _ rfl (hsp5.alloc _) ⟨w5.heap.size, 0, none⟩ 1 1 [.string tt] rfl rfl (one_news _ _ _) (one_oneCell rfl) (by decide) (by unfold maxLen; omega) (by omega) (by simp; omega) (w5.heap.size + 1) (by simp) ?_))
      intro g6 cap6 w6 hown6 hgr6 hat6 hlt6
      have hnext := hst4.step hkl hgr5 hown5 rfl rfl hat5 hgr6 hown6 rfl rfl hat6
      clear hst4 hkw hown5 hgr5 hat5 hsp5 hown6 hgr6 hat6
      go_wp2
      go_roundw
      case rel => exact ⟨i + 1, by omega, by go_num, by rw [Hks.out]; exact hnext⟩
      case measure => simp [intOf]; omega
    · have hiM2 : i = M := by omega
      subst hiM2
      have hres : wr.ownsRow w.heap.size 9 1 u10 i (textV (sparesOf l.length i O S l (l.getD 0 ByteArray.empty).size)) := by
        have h1 := hst.spare
        rw [Hre.out] at h1
        exact owns_base h1 (fun k e => by have := (h1.lt k e).1; have := hb1.size; omega)
      have hbf := hb1.trans (hst.below.mono hb1.size)
      clear hst
      go_wp2
      go_ret2
      exact ⟨_, rfl, hres, hbf⟩

end Go.Proofs.Ytnjaofkieajnlab

/- The program's Spare whole: an error, or the spare pieces. -/
namespace Go.Proofs.Ytnjaofkieajnlab
open Go.RowKit

set_option maxRecDepth 100000 in
set_option maxHeartbeats 1000000 in
theorem wspare_bad (K M O S : Int) (v : Value) (w : World) (hmay : mayB K M O S = false) :
    Calls Try.prog 41 #[specV K M O S, v] w fun e w' => e = .returned (.tuple #[.slice none 0 0, .int .i64 1]) ∧ Below w.heap.size w w' := by
  go_enter Try.func41, Try.ntmps41
  go_wp2_with fail
  refine (wrows_bad K M O S _ hmay).mono ?_
  rintro e w1 ⟨rfl, hb⟩
  have hb1 : Below w.heap.size w w1 := ((Below.refl _ _).alloc (Nat.le_refl _) _).trans (hb.mono (by simp))
  clear hb
  go_wp2
  go_ret2
  exact ⟨rfl, hb1⟩

set_option maxRecDepth 100000 in
set_option maxHeartbeats 1000000 in
theorem wspare_shape (K M O S : Nat) (v : Value) (l : List ByteArray) (w : World) (hK : 1 ≤ K ∧ K ≤ 20) (hM : 1 ≤ M ∧ M ≤ 20) (hO : 1 ≤ O ∧ O ≤ M) (hS : S ≤ 65535) (hl : l.length ≤ 8796093022208) (hsh : ¬ Shaped l K) (ht : TextsAt w v l) :
    Calls Try.prog 41 #[specV K M O S, v] w fun e w' => e = .returned (.tuple #[.slice none 0 0, .int .i64 3]) ∧ Below w.heap.size w w' := by
  have HT := hide ht
  have Hsh := hide hsh
  clear ht hsh
  go_enter Try.func41, Try.ntmps41
  go_wp2_with fail
  refine (wrows_ok K M O S _ hK hM hO hS).mono ?_
  rintro e w1 ⟨g, rv, rfl, hr, hg, hb⟩
  have hs1 := block_on (heap_alloc_new w _) hb
  have hb1 : Below w.heap.size w w1 := ((Below.refl _ _).alloc (Nat.le_refl _) _).trans (hb.mono (by simp))
  obtain ⟨c0, c1, c2, c3⟩ := spec_cellsI hs1
  clear hb hr hg
  go_wp2_with fail
  refine (sizeOf_any _ l K _ (by omega) (by omega) (HT.out.on hb1)).mono ?_
  rintro e w2 ⟨⟨r, rfl, _, hno⟩, rfl⟩
  obtain rfl := hno Hsh.out
  go_wp2
  go_ret2
  exact ⟨rfl, hb1⟩


set_option maxRecDepth 100000 in
set_option maxHeartbeats 1000000 in
theorem spare_bad (K M O S : Int) (v : Value) (w : World) (hmay : mayB K M O S = false) :
    Calls Try.prog 28 #[specV K M O S, v] w fun e w' => e = .returned (.tuple #[.slice none 0 0, .int .i64 1]) ∧ Below w.heap.size w w' := by
  go_enter Try.func28, Try.ntmps28
  go_wp2_with fail
  refine (wspare_bad K M O S v _ hmay).mono ?_
  rintro e w1 ⟨rfl, hb⟩
  have hb1 : Below w.heap.size w w1 := ((Below.refl _ _).alloc (Nat.le_refl _) _).trans (hb.mono (by simp))
  clear hb
  go_wp2
  go_ret2
  exact ⟨rfl, hb1⟩

set_option maxRecDepth 100000 in
set_option maxHeartbeats 1000000 in
theorem spare_shape (K M O S : Nat) (v : Value) (l : List ByteArray) (w : World) (hK : 1 ≤ K ∧ K ≤ 20) (hM : 1 ≤ M ∧ M ≤ 20) (hO : 1 ≤ O ∧ O ≤ M) (hS : S ≤ 65535) (hl : l.length ≤ 8796093022208) (hsh : ¬ Shaped l K) (ht : TextsAt w v l) :
    Calls Try.prog 28 #[specV K M O S, v] w fun e w' => e = .returned (.tuple #[.slice none 0 0, .int .i64 3]) ∧ Below w.heap.size w w' := by
  have HT := hide ht
  have Hsh := hide hsh
  clear ht hsh
  go_enter Try.func28, Try.ntmps28
  go_wp2_with fail
  refine (wspare_shape K M O S v l _ hK hM hO hS hl Hsh.out (HT.out.on ((Below.refl _ _).alloc (Nat.le_refl _) _))).mono ?_
  rintro e w1 ⟨rfl, hb⟩
  have hb1 : Below w.heap.size w w1 := ((Below.refl _ _).alloc (Nat.le_refl _) _).trans (hb.mono (by simp))
  clear hb
  go_wp2
  go_ret2
  exact ⟨rfl, hb1⟩

set_option maxRecDepth 100000 in
set_option maxHeartbeats 1000000 in
theorem spare_ok (K M O S : Nat) (v : Value) (l : List ByteArray) (w : World) (hK : 1 ≤ K ∧ K ≤ 20) (hM : 1 ≤ M ∧ M ≤ 20) (hO : 1 ≤ O ∧ O ≤ M) (hS : S ≤ 65535) (hsh : Shaped l K) (ht : TextsAt w v l) :
    Calls Try.prog 28 #[specV K M O S, v] w fun e w' => ∃ v', e = .returned (.tuple #[v', .int .i64 0]) ∧ w'.ownsRow w.heap.size 9 1 v' M (textV (sparesOf K M O S l (l.getD 0 ByteArray.empty).size)) ∧ Below w.heap.size w w' := by
  have HT := hide ht
  have Hsh := hide hsh
  clear ht hsh
  go_enter Try.func28, Try.ntmps28
  go_wp2_with fail
  refine (wspare_ok K M O S v l _ hK hM hO hS Hsh.out (HT.out.on ((Below.refl _ _).alloc (Nat.le_refl _) _))).mono ?_
  rintro e w1 ⟨v', rfl, hown, hb⟩
  have hown1 := owns_base (base' := w.heap.size) hown (fun k e => by have := (hown.lt k e).1; simp at this; omega)
  clear hown
  have hb1 : Below w.heap.size w w1 := ((Below.refl _ _).alloc (Nat.le_refl _) _).trans (hb.mono (by simp))
  clear hb
  go_wp2
  go_ret2
  exact ⟨v', rfl, hown1, hb1⟩

end Go.Proofs.Ytnjaofkieajnlab

/- What the document's own Word does: the data, and the spare pieces behind them. -/
namespace Go.Proofs.Ytnjaofkieajnlab
open Go.RowKit

theorem owns_apart {w : World} {b1 b2 : Nat} {e1 e2 : TypeId} {v1 v2 : Value} {n1 n2 : Nat} {xs1 xs2 : List Value} (h1 : w.ownsRow b1 e1 1 v1 n1 xs1) (h2 : w.ownsRow b2 e2 1 v2 n2 xs2) (hne : e1 ≠ e2) : ∀ k, v1.ownBlock = some k → v2.ownBlock ≠ some k := by
  intro k k1 k2
  obtain ⟨c1, hc1⟩ := owns_block h1 k1
  obtain ⟨c2, hc2⟩ := owns_block h2 k2
  rw [hc1] at hc2
  simp at hc2
  exact hne hc2.2

/-- Rows of numbers stand while a row of texts grows. -/
theorem RowsAt.grown {w w' : World} {base g M b n : Nat} {rv : Nat → Value} {L : Nat → List Nat} {v : Value} {xs : List Value} (h : RowsAt w base g M rv L) (hv : w.ownsRow b 9 1 v n xs) (hg : w.grownBy w' v.ownBlock) : RowsAt w' base g M rv L :=
  ⟨h.row.of_block (hg.block g h.row.lt (fun e => owns_ne hv h.row (by decide) g e.symm rfl)), h.gb,
    fun i hi => owns_of_block (h.own i hi) (fun k e => hg.block k ((h.own i hi).lt k e).2 (fun e2 => owns_apart (h.own i hi) hv (by decide) k e e2.symm)), h.apart⟩

theorem owns_prefix {w : World} {base q n cap : Nat} {e : TypeId} {xs : List Value} (h : w.ownsRow base e 1 (.slice (some ⟨q, 0, none⟩) n cap) n xs) (m : Nat) (hm : m ≤ n) : w.ownsRow base e 1 (.slice (some ⟨q, 0, none⟩) m cap) m (xs.take m) := by
  have hl := h.1
  rcases h.2 with ⟨h0, _⟩ | ⟨g, c, cur, hv, hb, hg, hc, hmx, hs, ht⟩
  · simp at h0
  · simp at hv
    obtain ⟨rfl, rfl⟩ := hv
    refine ⟨by rw [List.length_take]; omega, Or.inr ⟨_, cap, cur, rfl, hb, hg, by omega, hmx, hs, ?_⟩⟩
    rw [← ht, List.take_take]
    congr 1
    omega

theorem owns_cap {w : World} {base q n cap : Nat} {e : TypeId} {xs : List Value} (h : w.ownsRow base e 1 (.slice (some ⟨q, 0, none⟩) n cap) n xs) : n ≤ cap ∧ cap ≤ maxLen := by
  rcases h.2 with ⟨h0, _⟩ | ⟨g, c, cur, hv, hb, hg, hc, hmx, hs, ht⟩
  · simp at h0
  · simp at hv
    obtain ⟨rfl, rfl⟩ := hv
    exact ⟨hc, hmx⟩

end Go.Proofs.Ytnjaofkieajnlab

/- Spared: for every specification and every list of texts the program's Spare answers as the document asks, and leaves what is handed in alone. -/
namespace Go.Proofs.Ytnjaofkieajnlab
open Go.RowKit

theorem owns_suffix {w : World} {base g n cap K : Nat} {kn : List ByteArray} (h : w.ownsRow base 9 1 (.slice (some ⟨g, 0, none⟩) n cap) n (textV kn)) (hn : n = kn.length) (hK : K ≤ n) :
    TextsAt w (.slice (some ⟨g, K, none⟩) (n - K) (cap - K)) (kn.drop K) := by
  obtain ⟨ao, c, hv, hc, hcell⟩ := owns_texts h hn
  simp at hv
  obtain ⟨rfl, rfl, rfl⟩ := hv
  refine ⟨_, _, by rw [List.length_drop], by rw [List.length_drop]; omega, fun k hk => ?_⟩
  rw [List.length_drop] at hk
  obtain ⟨q, o, he, hq, hcl⟩ := hcell (K + k) (by omega)
  simp at he
  obtain ⟨rfl, rfl⟩ := he
  refine ⟨g, K, rfl, hq, ?_⟩
  rw [Nat.zero_add] at hcl
  rw [hcl]
  simp [List.getD_eq_getElem?_getD, List.getElem?_drop]

theorem TextsAt.chg {w w1 : World} {v : Value} {l : List ByteArray} (h : TextsAt w v l) (hb : Chg (fun _ => False) w w1) : TextsAt w1 v l := h.on (hb.below (fun _ _ x => x))

theorem HandedAt.on {w w1 : World} {g : Nat} {l : List ByteArray} (h : HandedAt w g l) (hb : Below w.heap.size w w1) : HandedAt w1 g l := h.of_block (hb.block g h.lt)

theorem Below.chg {w w1 w2 : World} {B : Nat} (h : Below B w w1) (hB : B ≤ w1.heap.size) (hc : Chg (fun _ => False) w1 w2) : Below B w w2 := h.trans ((hc.below (fun _ _ x => x)).mono hB)

end Go.Proofs.Ytnjaofkieajnlab

/- Fits: the program's and the document's own. -/
namespace Go.Proofs.Ytnjaofkieajnlab
open Go.RowKit

/-- In each row the pieces sum to noughts. -/
def Fit (K M O S : Nat) (l : List ByteArray) (size : Nat) : Prop := ∀ i, i < M → sumB l (rowOf K M O S i) size = zeroB size

/-- The answer tells whether p, with no error. -/
def Tells2 (p : Prop) (e : Ending) : Prop := ∃ b, e = .returned (.tuple #[.bool b, .int .i64 0]) ∧ (p → b = true) ∧ (¬ p → b = false)

theorem beq_bytes {a b : ByteArray} (h : a ≠ b) : (a.toList == b.toList) = false := by
  rw [ByteArray.toList_eq, ByteArray.toList_eq]
  apply beq_eq_false_iff_ne.2
  intro e
  apply h
  cases a; cases b
  congr
  exact Array.toList_inj.1 e

end Go.Proofs.Ytnjaofkieajnlab

/- The makers of the statements without the document's answer: pick, spec, pieces, word. -/
namespace Go.Proofs.Ytnjaofkieajnlab
open Go.RowKit

/-- The number that a raw one speaks of. -/
def rawOf (c : Int) : Int := if c < 0 then -(c + 1) else c

theorem rawOf_bd (c : Int) (h1 : -9223372036854775808 ≤ c) (h2 : c ≤ 9223372036854775807) : 0 ≤ rawOf c ∧ rawOf c ≤ 9223372036854775807 := by
  unfold rawOf; split <;> omega

set_option maxRecDepth 100000 in
set_option maxHeartbeats 400000 in
theorem pick_any (c n : Int) (w : World) (h1 : -9223372036854775808 ≤ c) (h2 : c ≤ 9223372036854775807) (hn : 1 ≤ n) :
    Calls Try.prog 13 #[.int .i64 c, .int .i64 n] w fun e w' => e = .returned (.int .i64 (rawOf c % n)) ∧ w' = w := by
  by_cases hc : c < 0
  · have hr : rawOf c = -(c + 1) := by simp [rawOf, hc]
    rw [hr]
    clear hr
    go_enter Try.func13, Try.ntmps13
    go_wp2
    go_ret
    exact ⟨ret_int (by rw [← Int.neg_tmod, Int.tmod_eq_emod_of_nonneg (by omega)]), rfl⟩
  · have hr : rawOf c = c := by simp [rawOf, hc]
    rw [hr]
    clear hr
    go_enter Try.func13, Try.ntmps13
    go_wp2
    go_ret
    exact ⟨rfl, rfl⟩

/-- A specification that may be, and a size. -/
structure SpecOk (K M O S z : Nat) : Prop where
  hK : 1 ≤ K ∧ K ≤ 20
  hM : 1 ≤ M ∧ M ≤ 20
  hO : 1 ≤ O ∧ O ≤ M
  hS : S ≤ 65535
  hz : 1 ≤ z ∧ z ≤ 16

/-- The same of whole numbers. -/
structure SpecOkI (K M O S z : Int) : Prop where
  hK : 1 ≤ K ∧ K ≤ 20
  hM : 1 ≤ M ∧ M ≤ 20
  hO : 1 ≤ O ∧ O ≤ M
  hS : 0 ≤ S ∧ S ≤ 65535
  hz : 1 ≤ z ∧ z ≤ 16

set_option maxRecDepth 100000 in
set_option maxHeartbeats 2000000 in
theorem spec_int (c : Int) (w : World) (h1 : -9223372036854775808 ≤ c) (h2 : c ≤ 9223372036854775807) :
    Calls Try.prog 8 #[.int .i64 c] w fun e w' => ∃ K M O S z : Int, e = .returned (.tuple #[specV K M O S, .int .i64 z]) ∧ SpecOkI K M O S z ∧ Below w.heap.size w w' := by
  have hb := rawOf_bd c h1 h2
  generalize hr : rawOf c = r at *
  have Hr := hide hr
  clear hr
  have hv0 : 0 ≤ r % 1099511627776 ∧ r % 1099511627776 < 1099511627776 := by omega
  go_enter Try.func8, Try.ntmps8
  go_wp2_with fail
  refine (pick_any c 1099511627776 _ h1 h2 (by omega)).mono ?_
  rintro e w1 ⟨rfl, rfl⟩
  rw [Hr.out]
  generalize r % 1099511627776 = v at *
  have m1 : 0 ≤ v / 400 % (1 + v / 20 % 20) := Int.emod_nonneg _ (by omega)
  have m2 : v / 400 % (1 + v / 20 % 20) < 1 + v / 20 % 20 := Int.emod_lt_of_pos _ (by omega)
  by_cases t1 : v / 400 / 20 % 2 = 0
  · have t1b : (v / 400 / 20 % 2 == 0) = true := by simp [t1]
    by_cases t2 : 2 < 1 + v / 20 % 20
    · go_wp2
      refine bodyPost_ret (v := .tuple #[specV (1 + v % 20) (1 + v / 20 % 20) (1 + v / 400 % 3) (v / 400 / 40 % 65536), .int .i64 (1 + v / 400 / 7 % 16)]) (by simp [results, Try.results8, go_sem]) rfl ⟨_, _, _, _, _, rfl, ⟨by omega, by omega, by omega, by omega, by omega⟩, ?_⟩
      exact ((Below.refl _ _).alloc (Nat.le_refl _) _).alloc (by simp) _
    · go_wp2
      refine bodyPost_ret (v := .tuple #[specV (1 + v % 20) (1 + v / 20 % 20) (1 + v / 400 % (1 + v / 20 % 20)) (v / 400 / 40 % 65536), .int .i64 (1 + v / 400 / 7 % 16)]) (by simp [results, Try.results8, go_sem]) rfl ⟨_, _, _, _, _, rfl, ⟨by omega, by omega, by omega, by omega, by omega⟩, ?_⟩
      exact ((Below.refl _ _).alloc (Nat.le_refl _) _).alloc (by simp) _
  · have t1b : (v / 400 / 20 % 2 == 0) = false := by simp; exact t1
    go_wp2
    refine bodyPost_ret (v := .tuple #[specV (1 + v % 20) (1 + v / 20 % 20) (1 + v / 400 % (1 + v / 20 % 20)) (v / 400 / 40 % 65536), .int .i64 (1 + v / 400 / 7 % 16)]) (by simp [results, Try.results8, go_sem]) rfl ⟨_, _, _, _, _, rfl, ⟨by omega, by omega, by omega, by omega, by omega⟩, ?_⟩
    exact ((Below.refl _ _).alloc (Nat.le_refl _) _).alloc (by simp) _

theorem spec_any (c : Int) (w : World) (h1 : -9223372036854775808 ≤ c) (h2 : c ≤ 9223372036854775807) :
    Calls Try.prog 8 #[.int .i64 c] w fun e w' => ∃ K M O S z : Nat, e = .returned (.tuple #[specV K M O S, .int .i64 (z : Int)]) ∧ SpecOk K M O S z ∧ Below w.heap.size w w' := by
  refine (spec_int c w h1 h2).mono ?_
  rintro e w' ⟨K, M, O, S, z, rfl, h, hb⟩
  obtain ⟨hK, hM, hO, hS, hz⟩ := h
  obtain ⟨k, rfl⟩ := Int.eq_ofNat_of_zero_le (show 0 ≤ K by omega)
  obtain ⟨m, rfl⟩ := Int.eq_ofNat_of_zero_le (show 0 ≤ M by omega)
  obtain ⟨o, rfl⟩ := Int.eq_ofNat_of_zero_le (show 0 ≤ O by omega)
  obtain ⟨s, rfl⟩ := Int.eq_ofNat_of_zero_le (show 0 ≤ S by omega)
  obtain ⟨y, rfl⟩ := Int.eq_ofNat_of_zero_le (show 0 ≤ z by omega)
  exact ⟨k, m, o, s, y, rfl, ⟨by omega, by omega, by omega, by omega, by omega⟩, hb⟩

end Go.Proofs.Ytnjaofkieajnlab
