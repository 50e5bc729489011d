/- For every script of bulk at most 1048576, whatever its steps are, the law All answers true: boxes, catchers, inboxes and lists of the program answer as the document asks, in every order, and each list that came out stays its owner's; the bound of bulk is the only condition. -/
import Derived.JoinedCond
import Derived.SliceStrings
import Derived.Test.YtnjaofkieajnlaaGreatAlluptoG36
import Derived.Test.YtnjaofkieajnlaaGreatRows

namespace Go.Proofs.YtnjaofkieajnlaaGreat
open Go.ChangeShapes Go.WideShapes Go.ChangeAt Go.RowKit Go.Joins

theorem Tryz.cellsStrs1 : Tryz.prog.cellsOf 27 = 1 := by kernel_rfl

theorem bulk_pos {H : Type} (d : DataW H) : 0 < Rows.uptoBulk d := by
  cases d with
  | lit l => cases l <;> (simp only [Rows.uptoBulk]; omega)
  | nil => simp only [Rows.uptoBulk]; omega
  | ptr d => simp only [Rows.uptoBulk]; omega
  | slice a b => simp only [Rows.uptoBulk]; omega
  | agg l => simp only [Rows.uptoBulk]; omega
  | iface t d => simp only [Rows.uptoBulk]; omega
  | map l => simp only [Rows.uptoBulk]; omega
  | held h => simp only [Rows.uptoBulk]; omega

theorem bulk_in {H : Type} {d : DataW H} : ∀ {l : List (DataW H)}, d ∈ l → Rows.uptoBulk d ≤ Rows.uptoBulkAll l
  | [], h => by cases h
  | x :: r, h => by
    simp only [Rows.uptoBulkAll]
    rcases List.mem_cons.1 h with e | e
    · rw [e]; omega
    · have := bulk_in e; omega

theorem bulk_count {H : Type} : ∀ l : List (DataW H), l.length ≤ Rows.uptoBulkAll l
  | [] => Nat.zero_le _
  | x :: r => by
    have := bulk_count r
    have := bulk_pos x
    simp only [Rows.uptoBulkAll, List.length_cons]
    omega

set_option maxRecDepth 100000 in
/-- A slice of texts within a step. -/
theorem texts_in {H : Type} {enc : TypeId × Value → H} {W : World} {v : Value} {n : Nat} {x : DataW H × List MemPlace} (h : DataW.trod enc Tryz.prog W 0 (fun _ => true) true n 27 [v] = some x) :
    ∃ l : List ByteArray, TextsAt W v l ∧ l.length ≤ Rows.uptoBulk x.1 := by
  rcases open_strings Tryz.underlying27 Tryz.underlying9 Tryz.cellsStr1 h with ⟨hcs, _⟩ | ⟨a, len, cap, ss, hcs, _, hl, hm, hz, hx, hcell, _⟩
  · simp only [List.cons.injEq, and_true] at hcs
    subst hcs
    exact ⟨[], ⟨none, 0, rfl, Nat.le_refl _, fun k hk => by simp at hk⟩, Nat.zero_le _⟩
  · simp only [List.cons.injEq, and_true] at hcs
    subst hcs
    have hss : ss.length = cap := by simpa using hz
    have hlen : (ss.take len).length = len := by rw [List.length_take]; omega
    refine ⟨ss.take len, ⟨some a, cap, by rw [hlen], by rw [hlen]; exact hl, fun k hk => ?_⟩, ?_⟩
    · rw [hlen] at hk
      have hc := hcell k (by omega)
      have hb := block_lt_of_cell hc
      obtain ⟨b, off, sp⟩ := a
      have hsp : sp = none := by
        cases sp with
        | none => rfl
        | some s =>
          have h0 := hcell 0 (by omega)
          unfold Addr.add at h0
          unfold World.cell? at h0
          simp at h0
          split at h0 <;> simp at h0
      subst hsp
      rw [Addr.add_mid] at hc hb
      refine ⟨b, off, rfl, hb, ?_⟩
      rw [hc]
      congr 2
      simp [List.getD_eq_getElem?_getD, hk]
    · rw [congrArg Prod.fst hx]
      have h1 := bulk_count (H := H) (strs (ss.take len))
      have h2 : (strs (H := H) (ss.take len)).length = (ss.take len).length := by simp [strs]
      simp only [Rows.uptoBulk]
      omega

set_option maxRecDepth 100000 in
theorem op_open2 {H : Type} {enc : TypeId × Value → H} {W : World} {n : Nat} {R : OpR} {x : DataW H × List MemPlace} (h : DataW.trod enc Tryz.prog W 0 (fun _ => true) true n 29 R.cells = some x) :
    R.s.size ≤ Rows.uptoBulk x.1 ∧ ∃ L, L.length ≤ Rows.uptoBulk x.1 ∧ TextsAt W R.lv L := by
  obtain ⟨xs, k, _, hx, _, hxl, hf⟩ := DataW.trod_struct Tryz.underlying29 h
  obtain ⟨y0, y1, y2, y3, y4, y5, y6, rfl⟩ := list7 hxl
  have g5 : DataW.trod enc Tryz.prog W 0 (fun _ => true) true k 9 ((R.cells.drop 8).take (Tryz.prog.cellsOf 9)) = some y5 := hf 5 _ rfl
  have g6 : DataW.trod enc Tryz.prog W 0 (fun _ => true) true k 27 ((R.cells.drop 9).take (Tryz.prog.cellsOf 27)) = some y6 := hf 6 _ rfl
  simp only [Tryz.cellsStr1, Tryz.cellsStrs1, OpR.cells, List.drop_succ_cons, List.drop_zero, List.take_succ_cons, List.take_zero] at g5 g6
  obtain ⟨s, e5, hy5, _⟩ := DataW.trod_string Tryz.underlying9 g5
  obtain ⟨L, hL, hLb⟩ := texts_in g6
  simp only [List.cons.injEq, Value.string.injEq, and_true] at e5
  have hx1 := congrArg Prod.fst hx
  dsimp only [List.map] at hx1
  rw [hx1]
  have hb : Rows.uptoBulkAll [y0.1, y1.1, y2.1, y3.1, y4.1, y5.1, y6.1] ≤ Rows.uptoBulk (DataW.agg [y0.1, y1.1, y2.1, y3.1, y4.1, y5.1, y6.1]) := by simp only [Rows.uptoBulk]; omega
  have b5 : Rows.uptoBulk y5.1 ≤ _ := bulk_in (l := [y0.1, y1.1, y2.1, y3.1, y4.1, y5.1, y6.1]) (by simp)
  have b6 : Rows.uptoBulk y6.1 ≤ _ := bulk_in (l := [y0.1, y1.1, y2.1, y3.1, y4.1, y5.1, y6.1]) (by simp)
  refine ⟨?_, L, by omega, hL⟩
  have h5 : R.s.size ≤ Rows.uptoBulk y5.1 := by
    rw [hy5, e5]
    have e : s.data.toList.length = s.size := by rw [Array.length_toList]; rfl
    simp only [Rows.uptoBulk]
    omega
  omega

set_option maxRecDepth 100000 in
/-- A script that came in, with what its bulk says. -/
theorem ops_open2 {H : Type} {enc : TypeId × Value → H} {W : World} {v : Value} {d : DataW H} {p : List MemPlace} {base : Nat} (hv : Value.okWide Tryz.prog W .any base 22 v)
    (h : DataW.Trod enc Tryz.prog W 0 (fun _ => true) true 22 v d p) : ∃ l : List OpR, OpsAt W v l ∧ l.length ≤ Rows.uptoBulk d ∧ ∀ i, i < l.length → (l.getD i OpR.none).s.size ≤ Rows.uptoBulk d ∧ ∃ L, L.length ≤ Rows.uptoBulk d ∧ TextsAt W (l.getD i OpR.none).lv L := by
  obtain ⟨a0, len, cap, rfl⟩ := okWide_slice Tryz.underlying22 hv
  obtain ⟨fuel, hf⟩ := h
  rcases Go.Deep.open_slice Tryz.underlying22 hf with ⟨hcs, _⟩ | ⟨x, len', cap', m, n, D, Pl, hcs, _, hl, _, hm, hx, hel⟩
  · simp [Value.cells] at hcs
    obtain ⟨rfl, rfl, rfl⟩ := hcs
    exact ⟨[], ⟨none, 0, rfl, Nat.le_refl _, fun k hk => by simp at hk⟩, Nat.zero_le _, fun i hi => by simp at hi⟩
  · simp [Value.cells] at hcs
    obtain ⟨rfl, rfl, rfl⟩ := hcs
    have hmc : m = cap := by simpa using hm
    have hd : d = .slice ((List.range len).map D) _ := congrArg Prod.fst hx
    have hspot : 0 < len → x.spot = none := fun h0 => by
      obtain ⟨cs, h1, h2⟩ := hel 0 (by omega)
      rw [Tryz.cellsOp] at h1
      obtain ⟨_, hlen, hcell⟩ := World.cells?_some h1
      obtain ⟨R, rfl, _, _⟩ := op_open h2 hlen
      have hc := hcell 0 (by omega)
      obtain ⟨b, off, sp⟩ := x
      cases sp with
      | none => rfl
      | some s =>
        rw [Go.Deep.add_add] at hc
        simp [Addr.add, World.cell?, OpR.cells] at hc
        split at hc <;> simp at hc
    have each : ∀ i, i < len → ∃ R : OpR, (∃ q o, x = ⟨q, o, none⟩ ∧ q < W.heap.size ∧ W.rangeAt q (o + i * 10) R.cells) ∧ (-9223372036854775808 ≤ R.a ∧ R.a ≤ 9223372036854775807) ∧ R.s.size ≤ Rows.uptoBulk (D i) ∧ ∃ L, L.length ≤ Rows.uptoBulk (D i) ∧ TextsAt W R.lv L := by
      intro i hi
      obtain ⟨cs, h1, h2⟩ := hel i (by omega)
      rw [Tryz.cellsOp] at h1
      obtain ⟨_, hlen, hcell⟩ := World.cells?_some h1
      obtain ⟨R, rfl, b1, b2⟩ := op_open h2 hlen
      have h3 := op_open2 h2
      refine ⟨R, ?_, ⟨b1, b2⟩, h3⟩
      obtain ⟨b, off, sp⟩ := x
      have h0 := hcell 0 (by omega)
      have hsp : sp = none := hspot (by omega)
      subst hsp
      refine ⟨b, off, rfl, ?_, fun j u hu => ?_⟩
      · rw [Addr.add_mid, Addr.add_mid] at h0
        exact block_lt_of_cell (h0.trans (show R.cells[0]? = some _ from rfl))
      · have hj : j < 10 := by have := (List.getElem?_eq_some_iff.1 hu).1; simpa [OpR.cells] using this
        have hj2 := hcell j hj
        rw [Addr.add_mid, Addr.add_mid] at hj2
        rw [hj2, hu]
    haveI : Inhabited OpR := ⟨OpR.none⟩
    obtain ⟨R, hR⟩ := Go.Deep.choose_lt each
    have hgl : ∀ i, i < len → ((List.range len).map R).getD i OpR.none = R i := fun i hi => by
      rw [List.getD_eq_getElem?_getD, List.getElem?_map, List.getElem?_range hi]; rfl
    have hbk : Rows.uptoBulkAll ((List.range len).map D) ≤ Rows.uptoBulk d := by rw [hd]; simp only [Rows.uptoBulk]; omega
    have hbn := bulk_count ((List.range len).map D)
    rw [List.length_map, List.length_range] at hbn
    refine ⟨(List.range len).map R, ⟨some x, cap, by simp, by simpa using hl, fun i hi => ?_⟩, by rw [List.length_map, List.length_range]; omega, fun i hi => ?_⟩
    · have hi' : i < len := by simpa using hi
      obtain ⟨⟨q, o, e1, e2, e3⟩, ⟨e4, e5⟩, _⟩ := hR i hi'
      rw [hgl i hi']
      exact ⟨q, o, by rw [e1], e2, e3, e4, e5⟩
    · have hi' : i < len := by simpa using hi
      obtain ⟨_, _, e6, L, e7, e8⟩ := hR i hi'
      rw [hgl i hi']
      have hb2 : Rows.uptoBulk (D i) ≤ _ := bulk_in (l := (List.range len).map D) (List.mem_map.2 ⟨i, List.mem_range.2 hi', rfl⟩)
      exact ⟨by omega, L, by omega, e8⟩

set_option maxRecDepth 100000 in
theorem all_contract (H : Type) (enc : TypeId × Value → H) (W : World) (base : Nat) (args : Array Value) (ds gs : List (DataW H)) (before : List MemPlace)
    (hval0 : ∀ (j : Nat) t v, Tryz.f6.params[j]? = some t → args[j]? = some v → Value.okWide Tryz.prog W .any base t v)
    (hW : DataW.Whole enc Tryz.prog Tryz.f6.params.toList Rows.allSpec.vars false W args.toList ds gs before) (hk : Rows.uptoSmall H (ds ++ gs) = true) :
    Calls Tryz.prog 6 args W fun e W' => ∃ v, e = .returned v ∧ Rows.allSpec.post enc Tryz.prog Tryz.f6 false true false false W args v W' := by
  have hval : ∀ (j : Nat) t v, Tryz.f6.params[j]? = some t → args[j]? = some v → Value.okWide Tryz.prog W .any base t v := hval0
  have hW' := hW
  obtain ⟨p, q, hA0, hV, rfl, hfz, hnd⟩ := hW
  have hA : DataW.TrodAll enc Tryz.prog W 0 (fun _ => true) true Tryz.f6.params.toList args.toList ds p := hA0
  rw [Tryz.params6] at hA hval
  obtain ⟨v0, d0, rfl, rfl, h0⟩ := trodAll_one hA
  obtain ⟨rfl, rfl⟩ := trodVars_none hV
  have k0 := h0
  have lt0 : ∀ x ∈ p, x.block < W.heap.size := by obtain ⟨m, hm⟩ := k0; exact DataW.trod_lt m _ _ _ hm
  obtain ⟨l, ht, hll, hex⟩ := ops_open2 (hval 0 22 v0 rfl rfl) h0
  have hbd : Rows.uptoBulkAll ([d0] ++ []) ≤ 1048576 := of_decide_eq_true hk
  rw [List.append_nil] at hbd
  simp only [Rows.uptoBulkAll] at hbd
  clear hA0 hval0
  refine (all_any v0 l W (by omega) ht (fun i hi => ?_)).mono fun e W' ⟨he, bel⟩ => ?_
  · obtain ⟨h1, L, h2, h3⟩ := hex i hi
    exact ⟨by omega, L, by omega, h3⟩
  · subst he
    exact ⟨_, rfl, _, _, _, [], _, [], hW', trodAll_mk1 (shut_bool Tryz.underlying4 _), trodAll_mk1 (Below.trod Tryz.laidOut (by kernel_rfl) (of_decide_eq_true (by kernel_rfl)) k0 bel lt0), rfl, bel.frame _, fun h => by cases h⟩

set_option maxRecDepth 100000 in
theorem all_lifted (os : Os) (started : os.Started) (H : Type) (enc : TypeId × Value → H) (F : Stop.Interp) :
    ReturnsInHanded {} Tryz.checked os 6 .any ((Rows.OpenSpec.upto Rows.allSpec).pre6 enc Tryz.prog Tryz.f6 Rows.allUptoRow.domain false) (((Rows.OpenSpec.upto Rows.allSpec).at F).post enc Tryz.prog Tryz.f6 false true false false) := by
  refine returnsInHanded_of_cond (C := Tryz.checked) (s := Rows.OpenSpec.upto Rows.allSpec) (k := Rows.uptoSmall) rfl Tryz.own started (by kernel_rfl) Tryz.func6
    (OpenSpec.witness (enc := enc) (C := Tryz.checked) (s := Rows.OpenSpec.upto Rows.allSpec) (k := Rows.uptoSmall) rfl false ⟨#[], #[.slice none 0 0], []⟩ 8 (by kernel_rfl) (by kernel_rfl) (by kernel_rfl)
      (x := ([.nil], [], [])) (by kernel_rfl) rfl (by kernel_rfl)) ?_
  intro W base args ds gs before hval hW _ hk _
  exact all_contract H enc W base args ds gs before hval hW hk

theorem allupto_holds : Rows.AllUptoSaid :=
  OpenClaim.holds_of_cond 6 Tryz.f6 rfl rfl rfl rfl rfl rfl rfl ⟨rfl, rfl, rfl, rfl, rfl⟩ rfl rfl rfl rfl rfl (by kernel_rfl) Tryz.func6 (by kernel_rfl)
    (of_decide_eq_true (by kernel_rfl)) (by unfold Func.isWrapper; first | (rw [if_pos (by decide +kernel)]; kernel_rfl) | (rw [if_neg (by decide +kernel)]; exact ⟨rfl, rfl⟩))
    (fun os started H enc _ F => all_lifted os started H enc F)

end Go.Proofs.YtnjaofkieajnlaaGreat
