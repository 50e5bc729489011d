/- What the document's own Rows (package refillref) does: the same rows in new memory. -/
import Derived.Test.YtnjaofkieajnlabHas
namespace Go.Proofs.Ytnjaofkieajnlab
open Go.RowKit

/-- Where refillref.Rows stands: the specification's block h, the rows' block g. -/
structure RAt (w wr : World) (h g base K M O S : Nat) (L : Nat → List Nat) (rv : Nat → Value) : Prop where
  spec : wr.heap[h]? = some (specB K M O S)
  rows : RowsAt wr base g M rv L
  below : Below w.heap.size w wr

theorem RAt.congr {w wr : World} {h g base K M O S : Nat} {L L' : Nat → List Nat} {rv : Nat → Value} (a : RAt w wr h g base K M O S L rv) (hl : ∀ i, i < M → L i = L' i) : RAt w wr h g base K M O S L' rv :=
  ⟨a.spec, a.rows.congr (fun _ _ => rfl) hl, a.below⟩

theorem RAt.on {w wr w1 : World} {h g base K M O S : Nat} {L : Nat → List Nat} {rv : Nat → Value} (a : RAt w wr h g base K M O S L rv) (hb : Below wr.heap.size wr w1) : RAt w w1 h g base K M O S L rv :=
  ⟨by rw [hb.block h (Array.getElem?_eq_some_iff.1 a.spec).1]; exact a.spec, a.rows.below hb, a.below.trans (hb.mono a.below.size)⟩

theorem RAt.push {w wr w1 : World} {h g base K M O S n x gg cap n' : Nat} {L : Nat → List Nat} {rv : Nat → Value} {xs : List Value} (a : RAt w wr h g base K M O S L rv)
    (hnM : n < M) (hg1 : wr.grownBy w1 (rv n).ownBlock) (hh : h < base) (hhg : h ≠ g) (hwg : w.heap.size ≤ g)
    (hown : w1.ownsRow base 3 1 (.slice (some ⟨gg, 0, none⟩) n' cap) n' xs) (hxs : xs = numsV (L n) ++ [.int .i64 (x : Int)]) (hn' : n' = (L n).length + 1) (hat : (rv n).ownBlock = some gg ∨ wr.heap.size ≤ gg) :
    ∃ rv', RAt w (w1.setCell ⟨g, n, none⟩ (.slice (some ⟨gg, 0, none⟩) n' cap)) h g base K M O S (fun k => if k = n then L n ++ [x] else L k) rv' := by
  have hrow := (a.rows.own n hnM).lt
  have hgb := a.rows.gb
  have hhl : h < wr.heap.size := (Array.getElem?_eq_some_iff.1 a.spec).1
  refine ⟨_, ?_, a.rows.push hnM hg1 hown hxs hn' hat, ?_⟩
  · rw [Below.heap_setCell _ _ _ _ (by exact hhg), hg1.block h hhl (fun e => by have := hrow h e.symm; omega)]; exact a.spec
  · exact (((Chg.of_below a.below (fun _ => False)).grown hg1 (fun k e => Or.inl (by have := hrow k e; omega))).setCell (Or.inl hwg) _).below (fun _ _ f => f)

end Go.Proofs.Ytnjaofkieajnlab
