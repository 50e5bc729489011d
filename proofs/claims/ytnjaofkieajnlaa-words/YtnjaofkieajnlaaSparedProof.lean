/- For every specification, whatever its four numbers, and every list of texts the law Spared answers true: the program's Spare gives what the document asks, or its error, and leaves the list that is handed in, and its spare room, as it was; no condition. -/
import Derived.Test.YtnjaofkieajnlaaSpared
import Derived.Test.YtnjaofkieajnlaaRowedProof
import Derived.SizedLaws
import Derived.SliceStrings
namespace Go.Proofs.Ytnjaofkieajnlaa
open Go.ChangeShapes Go.WideShapes Go.ChangeAt Go.RowKit Go.Joins

theorem Try.bytesText : Try.prog.bytesOf 9 = 16 := by kernel_rfl
theorem Try.cellsText : Try.prog.cellsOf 9 = 1 := by kernel_rfl

set_option maxRecDepth 100000 in
/-- A slice of texts that came in. -/
theorem texts_open {H : Type} {enc : TypeId × Value → H} {W : World} {v : Value} {d : DataW H} {p : List MemPlace} {base : Nat} (hv : Value.okWide Try.prog W .any base 28 v)
    (h : DataW.Trod enc Try.prog W 0 (fun _ => true) true 28 v d p) : ∃ l : List ByteArray, TextsAt W v l ∧ (l = [] ∨ ∃ sp, d = .slice (strs l) sp) := by
  obtain ⟨a0, len, cap, rfl⟩ := okWide_slice Try.underlying28 hv
  obtain ⟨fuel, hf⟩ := h
  rcases open_strings Try.underlying28 Try.underlying9 Try.cellsText hf with ⟨hcs, _⟩ | ⟨x, l, c, ss, hcs, _, hl, hm, hz, hx, hcell, _⟩
  · simp [Value.cells] at hcs
    obtain ⟨rfl, rfl, rfl⟩ := hcs
    exact ⟨[], ⟨none, 0, rfl, Nat.le_refl _, fun k hk => by simp at hk⟩, Or.inl rfl⟩
  · simp [Value.cells] at hcs
    obtain ⟨rfl, rfl, rfl⟩ := hcs
    have hss : ss.length = cap := by simpa using hz
    have hlen : (ss.take len).length = len := by rw [List.length_take]; omega
    refine ⟨ss.take len, ⟨some x, cap, by rw [hlen], by rw [hlen]; exact hl, fun k hk => ?_⟩, Or.inr ⟨_, by simpa using congrArg Prod.fst hx⟩⟩
    rw [hlen] at hk
    have hc := hcell k (by omega)
    have hb := block_lt_of_cell hc
    obtain ⟨b, off, sp⟩ := x
    have hsp : sp = none := by
      cases sp with
      | none => rfl
      | some s =>
        have h0 := hcell 0 (by omega)
        unfold Addr.add at h0
        unfold World.cell? at h0
        simp at h0
        split at h0 <;> simp at h0
    subst hsp
    rw [Addr.add_mid] at hc hb
    refine ⟨b, off, rfl, hb, ?_⟩
    rw [hc]
    congr 2
    simp [List.getD_eq_getElem?_getD, hk]

set_option maxRecDepth 100000 in
theorem spared_lifted (os : Os) (started : os.Started) (H : Type) (enc : TypeId × Value → H) :
    ReturnsInHanded {} Try.checked os 4 .any (Rows.sparedSpec.pre6 enc Try.prog Try.f4 Rows.sparedRow.domain false) (Rows.sparedSpec.post enc Try.prog Try.f4 false true false false) := by
  refine returnsInHanded_of_change_sized (C := Try.checked) Try.own started (by kernel_rfl) Try.func4
    (ChangeSpec.witness6 (enc := enc) (C := Try.checked) false ⟨#[], #[.agg #[.int .i64 0, .int .i64 0, .int .i64 0, .int .i64 0], .slice none 0 0], []⟩ 8 (by kernel_rfl) (by kernel_rfl) (by kernel_rfl) (by kernel_rfl)) ?_
  intro W base args ds gs before hval0 hW hcnd hsz0 _
  have hval : ∀ (j : Nat) t v, Try.f4.params[j]? = some t → args[j]? = some v → Value.okWide Try.prog W .any base t v := hval0
  have hsz : (DataW.weightsEach Try.prog (Try.f4.params.toList ++ Rows.sparedSpec.plain.varTypes Try.prog) (ds ++ gs)).all (· ≤ reachBytes) = true := hsz0
  have hW' := hW
  obtain ⟨p, q, hA0, hV, rfl, hfz, hnd⟩ := hW
  have hA : DataW.TrodAll enc Try.prog W 0 (fun _ => true) true Try.f4.params.toList args.toList ds p := hA0
  rw [Try.params4] at hA hval hsz
  obtain ⟨v0, v1, d0, d1, p0, p1, rfl, rfl, rfl, h0, h1⟩ := trodAll_two hA
  obtain ⟨rfl, rfl⟩ := trodVars_none hV
  have k0 := h0
  have k1 := h1
  have lt0 : ∀ x ∈ p0, x.block < W.heap.size := by obtain ⟨m, hm⟩ := k0; exact DataW.trod_lt m _ _ _ hm
  have lt1 : ∀ x ∈ p1, x.block < W.heap.size := by obtain ⟨m, hm⟩ := k1; exact DataW.trod_lt m _ _ _ hm
  obtain ⟨l, ht, hd⟩ := texts_open (hval 1 28 v1 rfl rfl) h1
  have hl : l.length ≤ 8796093022208 := by
    rcases hd with rfl | ⟨sp, rfl⟩
    · simp
    · have := sized_slice hsz (j := 1) (t := 28) (e := 9) rfl rfl Try.underlying28
      rw [Try.bytesText] at this
      simp only [strs, List.length_map, reachBytes] at this
      omega
  obtain ⟨c0, c1, c2, c3, y0, y1, y2, y3, m, rfl, rfl, _, hy0, hy1, hy2, hy3⟩ := open_agg4 Try.underlying23 (by kernel_rfl) Try.cellsSpec (hval 0 23 v0 rfl rfl) h0
  obtain ⟨K, e0, _, _⟩ := DataW.trod_int Try.underlying3 hy0
  obtain ⟨M, e1, _, _⟩ := DataW.trod_int Try.underlying3 hy1
  obtain ⟨O, e2, _, _⟩ := DataW.trod_int Try.underlying3 hy2
  obtain ⟨S, e3, _, _⟩ := DataW.trod_int Try.underlying3 hy3
  simp at e0 e1 e2 e3
  subst e0 e1 e2 e3
  clear hA0 hval0
  refine (spared_any K M O S v1 l W hl ht).mono fun e W' ⟨he, bel⟩ => ?_
  subst he
  exact ⟨_, rfl, _, _, _, [], _, [], hW', trodAll_mk1 (shut_bool Try.underlying4 _), trodAll_mk2 (Below.trod Try.laidOut (by kernel_rfl) (of_decide_eq_true (by kernel_rfl)) k0 bel lt0) (Below.trod Try.laidOut (by kernel_rfl) (of_decide_eq_true (by kernel_rfl)) k1 bel lt1), rfl, bel.frame _, fun h => by cases h⟩

theorem spared_holds : Rows.SparedSaid :=
  OpenClaim.holds_of_wide 4 Try.f4 rfl rfl rfl rfl rfl rfl rfl ⟨rfl, rfl, rfl, rfl, rfl⟩ rfl rfl rfl rfl rfl (by kernel_rfl) Try.func4 (by kernel_rfl)
    (of_decide_eq_true (by kernel_rfl)) (by unfold Func.isWrapper; first | (rw [if_pos (by decide +kernel)]; kernel_rfl) | (rw [if_neg (by decide +kernel)]; exact ⟨rfl, rfl⟩))
    (fun os started H enc _ => spared_lifted os started H enc)

end Go.Proofs.Ytnjaofkieajnlaa
