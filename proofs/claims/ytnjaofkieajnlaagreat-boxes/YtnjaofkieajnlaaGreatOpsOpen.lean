/- A script that came in, opened. -/
import Derived.Test.YtnjaofkieajnlaaGreatOpsW
import Derived.Test.YtnjaofkieajnlaaGreatRowedProof
import Derived.Deep.Slices
import Derived.Deep.MidRow
namespace Go.Proofs.YtnjaofkieajnlaaGreat
open Go.ChangeShapes Go.WideShapes Go.ChangeAt Go.RowKit Go.Joins

theorem Tryz.cellsOp : Tryz.prog.cellsOf 29 = 10 := by kernel_rfl
theorem Tryz.cellsInt1 : Tryz.prog.cellsOf 3 = 1 := by kernel_rfl
theorem Tryz.cellsStr1 : Tryz.prog.cellsOf 9 = 1 := by kernel_rfl
theorem Tryz.bytesOp : Tryz.prog.bytesOf 29 = 104 := by kernel_rfl

theorem ex_cons {α : Type} {l : List α} {n : Nat} (h : l.length = n + 1) : ∃ a t, l = a :: t := by
  cases l with
  | nil => simp at h
  | cons a t => exact ⟨a, t, rfl⟩

theorem list10 {α : Type} {l : List α} (h : l.length = 10) : ∃ a0 a1 a2 a3 a4 a5 a6 a7 a8 a9, l = [a0, a1, a2, a3, a4, a5, a6, a7, a8, a9] := by
  obtain ⟨a0, l, rfl⟩ := ex_cons h
  obtain ⟨a1, l, rfl⟩ := ex_cons (l := l) (n := 8) (by simpa using h)
  obtain ⟨a2, l, rfl⟩ := ex_cons (l := l) (n := 7) (by simpa using h)
  obtain ⟨a3, l, rfl⟩ := ex_cons (l := l) (n := 6) (by simpa using h)
  obtain ⟨a4, l, rfl⟩ := ex_cons (l := l) (n := 5) (by simpa using h)
  obtain ⟨a5, l, rfl⟩ := ex_cons (l := l) (n := 4) (by simpa using h)
  obtain ⟨a6, l, rfl⟩ := ex_cons (l := l) (n := 3) (by simpa using h)
  obtain ⟨a7, l, rfl⟩ := ex_cons (l := l) (n := 2) (by simpa using h)
  obtain ⟨a8, l, rfl⟩ := ex_cons (l := l) (n := 1) (by simpa using h)
  obtain ⟨a9, l, rfl⟩ := ex_cons (l := l) (n := 0) (by simpa using h)
  have hl : l = [] := List.eq_nil_of_length_eq_zero (by simpa using h)
  subst hl
  exact ⟨_, _, _, _, _, _, _, _, _, _, rfl⟩

theorem list7 {α : Type} {l : List α} (h : l.length = 7) : ∃ a0 a1 a2 a3 a4 a5 a6, l = [a0, a1, a2, a3, a4, a5, a6] := by
  obtain ⟨a0, l, rfl⟩ := ex_cons (l := l) (n := 6) h
  obtain ⟨a1, l, rfl⟩ := ex_cons (l := l) (n := 5) (by simpa using h)
  obtain ⟨a2, l, rfl⟩ := ex_cons (l := l) (n := 4) (by simpa using h)
  obtain ⟨a3, l, rfl⟩ := ex_cons (l := l) (n := 3) (by simpa using h)
  obtain ⟨a4, l, rfl⟩ := ex_cons (l := l) (n := 2) (by simpa using h)
  obtain ⟨a5, l, rfl⟩ := ex_cons (l := l) (n := 1) (by simpa using h)
  obtain ⟨a6, l, rfl⟩ := ex_cons (l := l) (n := 0) (by simpa using h)
  have hl : l = [] := List.eq_nil_of_length_eq_zero (by simpa using h)
  subst hl
  exact ⟨_, _, _, _, _, _, _, rfl⟩

theorem list4 {α : Type} {l : List α} (h : l.length = 4) : ∃ a0 a1 a2 a3, l = [a0, a1, a2, a3] := by
  obtain ⟨a0, l, rfl⟩ := ex_cons (l := l) (n := 3) h
  obtain ⟨a1, l, rfl⟩ := ex_cons (l := l) (n := 2) (by simpa using h)
  obtain ⟨a2, l, rfl⟩ := ex_cons (l := l) (n := 1) (by simpa using h)
  obtain ⟨a3, l, rfl⟩ := ex_cons (l := l) (n := 0) (by simpa using h)
  have hl : l = [] := List.eq_nil_of_length_eq_zero (by simpa using h)
  subst hl
  exact ⟨_, _, _, _, rfl⟩

set_option maxRecDepth 100000 in
/-- One step, opened. -/
theorem op_open {H : Type} {enc : TypeId × Value → H} {W : World} {n : Nat} {cs : List Value} {x : DataW H × List MemPlace} (h : DataW.trod enc Tryz.prog W 0 (fun _ => true) true n 29 cs = some x) (hl : cs.length = 10) :
    ∃ R : OpR, cs = R.cells ∧ -9223372036854775808 ≤ R.a ∧ R.a ≤ 9223372036854775807 := by
  obtain ⟨xs, k, _, _, _, hxl, hf⟩ := DataW.trod_struct Tryz.underlying29 h
  obtain ⟨y0, y1, y2, y3, y4, y5, y6, rfl⟩ := list7 hxl
  obtain ⟨v0, v1, v2, v3, v4, v5, v6, v7, v8, v9, rfl⟩ := list10 hl
  have g0 : DataW.trod enc Tryz.prog W 0 (fun _ => true) true k 3 (([v0, v1, v2, v3, v4, v5, v6, v7, v8, v9].drop 0).take (Tryz.prog.cellsOf 3)) = some y0 := hf 0 _ rfl
  have g1 : DataW.trod enc Tryz.prog W 0 (fun _ => true) true k 3 (([v0, v1, v2, v3, v4, v5, v6, v7, v8, v9].drop 1).take (Tryz.prog.cellsOf 3)) = some y1 := hf 1 _ rfl
  have g2 : DataW.trod enc Tryz.prog W 0 (fun _ => true) true k 3 (([v0, v1, v2, v3, v4, v5, v6, v7, v8, v9].drop 2).take (Tryz.prog.cellsOf 3)) = some y2 := hf 2 _ rfl
  have g3 : DataW.trod enc Tryz.prog W 0 (fun _ => true) true k 3 (([v0, v1, v2, v3, v4, v5, v6, v7, v8, v9].drop 3).take (Tryz.prog.cellsOf 3)) = some y3 := hf 3 _ rfl
  have g4 : DataW.trod enc Tryz.prog W 0 (fun _ => true) true k 25 (([v0, v1, v2, v3, v4, v5, v6, v7, v8, v9].drop 4).take (Tryz.prog.cellsOf 25)) = some y4 := hf 4 _ rfl
  have g5 : DataW.trod enc Tryz.prog W 0 (fun _ => true) true k 9 (([v0, v1, v2, v3, v4, v5, v6, v7, v8, v9].drop 8).take (Tryz.prog.cellsOf 9)) = some y5 := hf 5 _ rfl
  simp only [Tryz.cellsInt1, Tryz.cellsStr1, Tryz.cellsSpec, List.drop_succ_cons, List.drop_zero, List.take_succ_cons, List.take_zero] at g0 g1 g2 g3 g4 g5
  obtain ⟨n0, e0, _, _⟩ := DataW.trod_int Tryz.underlying3 g0
  obtain ⟨n1, e1, _, w1⟩ := DataW.trod_int Tryz.underlying3 g1
  obtain ⟨n2, e2, _, _⟩ := DataW.trod_int Tryz.underlying3 g2
  obtain ⟨n3, e3, _, _⟩ := DataW.trod_int Tryz.underlying3 g3
  obtain ⟨s, e5, _, _⟩ := DataW.trod_string Tryz.underlying9 g5
  obtain ⟨zs, k2, _, _, _, hzl, hf2⟩ := DataW.trod_struct Tryz.underlying25 g4
  obtain ⟨z0, z1, z2, z3, rfl⟩ := list4 hzl
  have j0 : DataW.trod enc Tryz.prog W 0 (fun _ => true) true k2 3 (([v4, v5, v6, v7].drop 0).take (Tryz.prog.cellsOf 3)) = some z0 := hf2 0 _ rfl
  have j1 : DataW.trod enc Tryz.prog W 0 (fun _ => true) true k2 3 (([v4, v5, v6, v7].drop 1).take (Tryz.prog.cellsOf 3)) = some z1 := hf2 1 _ rfl
  have j2 : DataW.trod enc Tryz.prog W 0 (fun _ => true) true k2 3 (([v4, v5, v6, v7].drop 2).take (Tryz.prog.cellsOf 3)) = some z2 := hf2 2 _ rfl
  have j3 : DataW.trod enc Tryz.prog W 0 (fun _ => true) true k2 3 (([v4, v5, v6, v7].drop 3).take (Tryz.prog.cellsOf 3)) = some z3 := hf2 3 _ rfl
  simp only [Tryz.cellsInt1, List.drop_succ_cons, List.drop_zero, List.take_succ_cons, List.take_zero] at j0 j1 j2 j3
  obtain ⟨m0, f0, _, _⟩ := DataW.trod_int Tryz.underlying3 j0
  obtain ⟨m1, f1, _, _⟩ := DataW.trod_int Tryz.underlying3 j1
  obtain ⟨m2, f2, _, _⟩ := DataW.trod_int Tryz.underlying3 j2
  obtain ⟨m3, f3, _, _⟩ := DataW.trod_int Tryz.underlying3 j3
  simp only [List.cons.injEq, and_true] at e0 e1 e2 e3 e5 f0 f1 f2 f3
  subst e0 e1 e2 e3 e5 f0 f1 f2 f3
  have b1 := bounds_i64 w1
  exact ⟨⟨n0, n1, n2, n3, m0, m1, m2, m3, s, v9⟩, rfl, b1.1, b1.2⟩

set_option maxRecDepth 100000 in
/-- A script that came in. -/
theorem ops_open {H : Type} {enc : TypeId × Value → H} {W : World} {v : Value} {d : DataW H} {p : List MemPlace} {base : Nat} (hv : Value.okWide Tryz.prog W .any base 22 v)
    (h : DataW.Trod enc Tryz.prog W 0 (fun _ => true) true 22 v d p) : ∃ l : List OpR, OpsAt W v l ∧ (l = [] ∨ ∃ es sp, d = .slice es sp ∧ es.length = l.length) := by
  obtain ⟨a0, len, cap, rfl⟩ := okWide_slice Tryz.underlying22 hv
  obtain ⟨fuel, hf⟩ := h
  rcases Go.Deep.open_slice Tryz.underlying22 hf with ⟨hcs, _⟩ | ⟨x, len', cap', m, n, D, Pl, hcs, _, hl, _, hm, hx, hel⟩
  · simp [Value.cells] at hcs
    obtain ⟨rfl, rfl, rfl⟩ := hcs
    exact ⟨[], ⟨none, 0, rfl, Nat.le_refl _, fun k hk => by simp at hk⟩, Or.inl rfl⟩
  · simp [Value.cells] at hcs
    obtain ⟨rfl, rfl, rfl⟩ := hcs
    have hmc : m = cap := by simpa using hm
    have hspot : 0 < len → x.spot = none := fun h0 => by
      obtain ⟨cs, h1, h2⟩ := hel 0 (by omega)
      rw [Tryz.cellsOp] at h1
      obtain ⟨_, hlen, hcell⟩ := World.cells?_some h1
      obtain ⟨R, rfl, _, _⟩ := op_open h2 hlen
      have hc := hcell 0 (by omega)
      obtain ⟨b, off, sp⟩ := x
      cases sp with
      | none => rfl
      | some s =>
        rw [Go.Deep.add_add] at hc
        simp [Addr.add, World.cell?, OpR.cells] at hc
        split at hc <;> simp at hc
    have each : ∀ i, i < len → ∃ R : OpR, (∃ q o, x = ⟨q, o, none⟩ ∧ q < W.heap.size ∧ W.rangeAt q (o + i * 10) R.cells) ∧ -9223372036854775808 ≤ R.a ∧ R.a ≤ 9223372036854775807 := by
      intro i hi
      obtain ⟨cs, h1, h2⟩ := hel i (by omega)
      rw [Tryz.cellsOp] at h1
      obtain ⟨_, hlen, hcell⟩ := World.cells?_some h1
      obtain ⟨R, rfl, b1, b2⟩ := op_open h2 hlen
      refine ⟨R, ?_, b1, b2⟩
      obtain ⟨b, off, sp⟩ := x
      have h0 := hcell 0 (by omega)
      have hsp : sp = none := hspot (by omega)
      subst hsp
      refine ⟨b, off, rfl, ?_, fun j u hu => ?_⟩
      · rw [Addr.add_mid, Addr.add_mid] at h0
        exact block_lt_of_cell (h0.trans (show R.cells[0]? = some _ from rfl))
      · have hj : j < 10 := by have := (List.getElem?_eq_some_iff.1 hu).1; simpa [OpR.cells] using this
        have hj2 := hcell j hj
        rw [Addr.add_mid, Addr.add_mid] at hj2
        rw [hj2, hu]
    haveI : Inhabited OpR := ⟨OpR.none⟩
    obtain ⟨R, hR⟩ := Go.Deep.choose_lt each
    have hgl : ∀ i, i < len → ((List.range len).map R).getD i OpR.none = R i := fun i hi => by
      rw [List.getD_eq_getElem?_getD, List.getElem?_map, List.getElem?_range hi]; rfl
    refine ⟨(List.range len).map R, ⟨some x, cap, by simp, by simpa using hl, fun i hi => ?_⟩, Or.inr ⟨_, _, congrArg Prod.fst hx, by simp⟩⟩
    have hi' : i < len := by simpa using hi
    obtain ⟨⟨q, o, e1, e2, e3⟩, e4, e5⟩ := hR i hi'
    rw [hgl i hi']
    exact ⟨q, o, by rw [e1], e2, e3, e4, e5⟩

end Go.Proofs.YtnjaofkieajnlaaGreat
