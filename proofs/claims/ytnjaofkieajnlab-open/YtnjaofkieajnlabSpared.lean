/- Spared: for every specification and every list of texts the program's Spare answers as the document asks, and leaves what is handed in alone. -/
import Derived.Test.YtnjaofkieajnlabRWord
namespace Go.Proofs.Ytnjaofkieajnlab
open Go.RowKit

theorem owns_suffix {w : World} {base g n cap K : Nat} {kn : List ByteArray} (h : w.ownsRow base 9 1 (.slice (some ⟨g, 0, none⟩) n cap) n (textV kn)) (hn : n = kn.length) (hK : K ≤ n) :
    TextsAt w (.slice (some ⟨g, K, none⟩) (n - K) (cap - K)) (kn.drop K) := by
  obtain ⟨ao, c, hv, hc, hcell⟩ := owns_texts h hn
  simp at hv
  obtain ⟨rfl, rfl, rfl⟩ := hv
  refine ⟨_, _, by rw [List.length_drop], by rw [List.length_drop]; omega, fun k hk => ?_⟩
  rw [List.length_drop] at hk
  obtain ⟨q, o, he, hq, hcl⟩ := hcell (K + k) (by omega)
  simp at he
  obtain ⟨rfl, rfl⟩ := he
  refine ⟨g, K, rfl, hq, ?_⟩
  rw [Nat.zero_add] at hcl
  rw [hcl]
  simp [List.getD_eq_getElem?_getD, List.getElem?_drop]

theorem TextsAt.chg {w w1 : World} {v : Value} {l : List ByteArray} (h : TextsAt w v l) (hb : Chg (fun _ => False) w w1) : TextsAt w1 v l := h.on (hb.below (fun _ _ x => x))

theorem HandedAt.on {w w1 : World} {g : Nat} {l : List ByteArray} (h : HandedAt w g l) (hb : Below w.heap.size w w1) : HandedAt w1 g l := h.of_block (hb.block g h.lt)

theorem Below.chg {w w1 w2 : World} {B : Nat} (h : Below B w w1) (hB : B ≤ w1.heap.size) (hc : Chg (fun _ => False) w1 w2) : Below B w w2 := h.trans ((hc.below (fun _ _ x => x)).mono hB)

end Go.Proofs.Ytnjaofkieajnlab
