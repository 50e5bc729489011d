/- A slice of ints that came in, opened. -/
import Derived.Test.YtnjaofkieajnlabFilled
import Derived.Test.YtnjaofkieajnlabRowedProof
import Derived.Deep.MidRow
import Derived.ChangeSlices
namespace Go.Proofs.Ytnjaofkieajnlab
open Go.ChangeShapes Go.WideShapes Go.ChangeAt Go.RowKit Go.Joins

theorem Try.cellsInt : Try.prog.cellsOf 3 = 1 := by kernel_rfl

set_option maxRecDepth 100000 in
/-- A slice of ints that came in. -/
theorem ints_open {H : Type} {enc : TypeId × Value → H} {W : World} {v : Value} {d : DataW H} {p : List MemPlace} {base : Nat} (hv : Value.okWide Try.prog W .any base 22 v)
    (h : DataW.Trod enc Try.prog W 0 (fun _ => true) true 22 v d p) : ∃ l : List Int, IntsAt W v l ∧ l.length ≤ 9223372036854775807 := by
  obtain ⟨a0, len, cap, rfl⟩ := okWide_slice Try.underlying22 hv
  obtain ⟨fuel, hf⟩ := h
  rcases open_ints Try.underlying22 Try.underlying3 Try.cellsInt hf with ⟨hcs, _⟩ | ⟨x, l, c, zs, hcs, _, hl, hm, hz, hx, hcell, hwf⟩
  · simp [Value.cells] at hcs
    obtain ⟨rfl, rfl, rfl⟩ := hcs
    exact ⟨[], ⟨none, 0, rfl, Nat.le_refl _, fun k hk => by simp at hk⟩, by simp⟩
  · simp [Value.cells] at hcs
    obtain ⟨rfl, rfl, rfl⟩ := hcs
    have hss : zs.length = cap := by simpa using hz
    have hlen : (zs.take len).length = len := by rw [List.length_take]; omega
    unfold maxLen at hm
    refine ⟨zs.take len, ⟨some x, cap, by rw [hlen], by rw [hlen]; exact hl, fun k hk => ?_⟩, by rw [hlen]; omega⟩
    rw [hlen] at hk
    have hc := hcell k (by omega)
    have hb := block_lt_of_cell hc
    obtain ⟨b, off, sp⟩ := x
    have hsp : sp = none := by
      cases sp with
      | none => rfl
      | some s =>
        have h0 := hcell 0 (by omega)
        unfold Addr.add at h0
        unfold World.cell? at h0
        simp at h0
        split at h0 <;> simp at h0
    subst hsp
    rw [Addr.add_mid] at hc hb
    have hg : (zs.take len).getD k 0 = zs.getD k 0 := by simp [List.getD_eq_getElem?_getD, hk]
    have hbd := bounds_i64 (hwf (zs.getD k 0) (by rw [List.getD_eq_getElem?_getD, List.getElem?_eq_getElem (show k < zs.length by omega)]; exact List.getElem_mem _))
    exact ⟨b, off, rfl, hb, by rw [hc, hg], by rw [hg]; exact hbd.1, by rw [hg]; exact hbd.2⟩

end Go.Proofs.Ytnjaofkieajnlab
