/- The document's own sums: noughts, plus, total. -/
import Derived.Test.YtnjaofkieajnlabSameRows
import Derived.Test.YtnjaofkieajnlabBytes
import Derived.Laws.BytesArg
import Derived.BigQuiet
import Derived.Deep.QuietTactic
namespace Go.Proofs.Ytnjaofkieajnlab
open Go.RowKit

theorem Try.infoByte : (Try.prog.info? 5).map (fun i => (i.zero, i.size, i.bytes)) = some (some (.int .u8 0), 1, 1) := by kernel_rfl
theorem Try.infoText : (Try.prog.info? 9).map (fun i => (i.zero, i.size, i.bytes)) = some (some (.string ByteArray.empty), 1, 16) := by kernel_rfl

theorem strOfNums_numsB (a : ByteArray) : strOfNums (numsB a) = a := by
  cases a with
  | mk d =>
    have h : ((fun n : Int => UInt8.ofNat n.toNat) ∘ fun b : UInt8 => (b.toNat : Int)) = id := by funext b; simp
    unfold strOfNums numsB
    rw [List.map_map, h, List.map_id]

/-- Bytes as values. -/
def bytesV (a : ByteArray) : List Value := (numsB a).map (Value.int .u8)

theorem bytesV_getElem (a : ByteArray) (i : Nat) (h : i < a.size) : (bytesV a)[i]? = some (.int .u8 ((byteAt a i).toNat : Int)) := by
  unfold bytesV
  rw [List.getElem?_map]
  have h2 : (numsB a)[i]? = some ((numsB a).getD i 0) := by
    rw [List.getD_eq_getElem?_getD, List.getElem?_eq_getElem (by rw [numsB_length]; exact h)]; rfl
  rw [h2, numsB_getD]; rfl

/-- The bytes of the sum as far as k. -/
theorem bytesV_take_succ (a b : ByteArray) (h : a.size = b.size) (k : Nat) (hk : k < a.size) :
    (bytesV (xorB a b)).take (k + 1) = (bytesV (xorB a b)).take k ++ [.int .u8 (((byteAt a k).toNat ^^^ (byteAt b k).toNat : Nat) : Int)] := by
  have hl : k < (bytesV (xorB a b)).length := by unfold bytesV; rw [List.length_map, numsB_length, xorB_size h]; exact hk
  rw [List.take_succ_eq_append_getElem hl]
  have h1 := bytesV_getElem (xorB a b) k (by rw [xorB_size h]; exact hk)
  rw [List.getElem?_eq_getElem hl, byteAt_xorB h k hk, toNat_xor] at h1
  simp only [Option.some.injEq] at h1
  rw [h1]

theorem bytesV_length (a : ByteArray) : (bytesV a).length = a.size := by unfold bytesV; rw [List.length_map, numsB_length]

/-- The cells of an owned row of bytes. -/
theorem owns_bytes {w : World} {base : Nat} {v : Value} {a : ByteArray} (h : w.ownsRow base 5 1 v a.size (bytesV a)) (h0 : 0 < a.size) :
    ∃ g cap, v = .slice (some ⟨g, 0, none⟩) a.size cap ∧ ∀ k, k < a.size → w.cell? ⟨g, 0 + k, none⟩ = some (.int .u8 ((numsB a).getD k 0)) := by
  rcases h.2 with ⟨rfl, hn⟩ | ⟨g, cap, cur, rfl, _, hg, hc, _, _, ht⟩
  · omega
  · refine ⟨g, cap, rfl, fun k hk => ?_⟩
    rw [cell_of_row _ _ _ _ _ _ hg, Nat.zero_add]
    have h1 := bytesV_getElem a k hk
    rw [← ht, List.getElem?_take] at h1
    rw [if_pos (by omega)] at h1
    rw [numsB_getD]
    simpa using h1

/-- A slice of texts, as it is read: its elements are l. -/
def TextsAt (w : World) (v : Value) (l : List ByteArray) : Prop :=
  ∃ ao cap, v = .slice ao l.length cap ∧ l.length ≤ cap ∧ ∀ k, k < l.length → ∃ q o, ao = some ⟨q, o, none⟩ ∧ q < w.heap.size ∧ w.cell? ⟨q, o + k, none⟩ = some (.string (l.getD k ByteArray.empty))

theorem TextsAt.on {w w1 : World} {v : Value} {l : List ByteArray} (h : TextsAt w v l) (hb : Below w.heap.size w w1) : TextsAt w1 v l := by
  obtain ⟨ao, cap, hv, hl, hc⟩ := h
  refine ⟨ao, cap, hv, hl, fun k hk => ?_⟩
  obtain ⟨q, o, ha, hq, hcell⟩ := hc k hk
  exact ⟨q, o, ha, Nat.lt_of_lt_of_le hq hb.size, by rw [hb.cell hq]; exact hcell⟩

end Go.Proofs.Ytnjaofkieajnlab
