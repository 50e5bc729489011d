/- Texts of the proof, part 37. -/
import Derived.Below
import Derived.ChangeOld
import Derived.Deep.MidRow
import Derived.Deep.Slices
import Derived.Lib.SmallJoins
import Derived.OpenShut
import Derived.ProofKit
import Derived.Test.YtnjaofkieajnlaaGreatAlluptoG11
import Derived.Test.YtnjaofkieajnlaaGreatAlluptoG35
import Derived.Test.YtnjaofkieajnlaaGreatAlluptoG6
import Derived.Test.YtnjaofkieajnlaaGreatRows

/- The statement All, walked. -/
namespace Go.Proofs.YtnjaofkieajnlaaGreat
open Go.RowKit

/-- No lists yet. -/
def ls0 : LS := ⟨0, [], 0, fun _ => nilV, fun _ => nilV, fun _ => [], [], [], [], [], []⟩

theorem lists0 (w : World) : ListsAt w world0 (fun _ => 0) 0 ls0 := by
  have hc : ∀ c, Col (fun _ => 0) c nilV := fun c => col_nil _ c
  have hr : ∀ c k, fpRows nilV 0 (fun _ => nilV) k → (fun _ : Nat => 0) k = c := fun c k hk => by
    rcases hk with hk | ⟨i, hi, _⟩
    · exact absurd hk (nilV_own k)
    · exact absurd hi (Nat.not_lt_zero _)
  have hn : ∀ {k : Nat}, ¬ k < 0 := fun {k} => Nat.not_lt_zero k
  exact ⟨rfl, rfl, World.ownsRow_nil _ _ _ _, World.ownsRow_nil _ _ _ _, RowsOwn.nil _ _ _, RowsOwn.nil _ _ _, World.ownsRow_nil _ _ _ _, World.ownsRow_nil _ _ _ _, World.ownsRow_nil _ _ _ _, World.ownsRow_nil _ _ _ _, World.ownsRow_nil _ _ _ _, rfl, rfl, fun k hk => absurd hk hn, fun k hk => absurd hk hn, fun k hk => absurd hk hn, hc 9, hc 12, hr 10, hr 12, hc 4, hc 5, hc 6, hc 7, hc 8, fun k => hc 11, fun k => hc 11, fun k => hc 11, fun k => hc 11, fun k => hc 11, Nat.zero_le _, Nat.zero_le _, fun i hi => absurd hi hn, Nat.le_refl _, Nat.le_refl _, Nat.le_refl _, Nat.le_refl _⟩

theorem wa0 (w0 : World) (wb : Nat) (hrow : w0.rowIs wb 39 14 world0) : WA w0 wb 0 0 w0 := by
  have hno : ∀ {α : Type} (κ : Kind α) k, ¬ pfp κ (.slice none 0 0) [] k := fun κ k hk => by
    rcases hk with hk | ⟨i, hi, _⟩
    · simp [Value.ownBlock] at hk
    · simp at hi
  exact ⟨world0, fun _ => 0, ls0, [], [], [], ⟨hrow, rfl, fun _ _ => rfl, PairsAt.empty _ _ _, fun k hk => absurd hk (hno boxK k), PairsAt.empty _ _ _, fun k hk => absurd hk (hno catK k), PairsAt.empty _ _ _, fun k hk => absurd hk (hno inbK k), lists0 w0, Nat.le_refl _, Nat.le_refl _, Nat.le_refl _, Chg.refl _ _⟩, rfl⟩

/-- The first steps. -/
def headR (i : Nat) : OpR := [⟨1, 2, 0, 0, 2, 2, 1, 0, ⟨#[]⟩, .slice none 0 0⟩, ⟨5, 0, 0, 0, 0, 0, 0, 0, ⟨#[]⟩, .slice none 0 0⟩, ⟨9, 0, 0, 0, 0, 0, 0, 0, ⟨#[]⟩, .slice none 0 0⟩, ⟨15, 2, 0, 0, 2, 2, 1, 0, ⟨#[65]⟩, .slice none 0 0⟩].getD i OpR.none

abbrev headA : Array Value := #[.int .i64 1, .int .i64 2, .int .i64 0, .int .i64 0, .int .i64 2, .int .i64 2, .int .i64 1, .int .i64 0, .string ⟨#[]⟩, .slice none 0 0, .int .i64 5, .int .i64 0, .int .i64 0, .int .i64 0, .int .i64 0, .int .i64 0, .int .i64 0, .int .i64 0, .string ⟨#[]⟩, .slice none 0 0, .int .i64 9, .int .i64 0, .int .i64 0, .int .i64 0, .int .i64 0, .int .i64 0, .int .i64 0, .int .i64 0, .string ⟨#[]⟩, .slice none 0 0, .int .i64 15, .int .i64 2, .int .i64 0, .int .i64 0, .int .i64 2, .int .i64 2, .int .i64 1, .int .i64 0, .string ⟨#[65]⟩, .slice none 0 0]

theorem head_at {w : World} {q : Nat} (h : w.heap[q]? = some (.cells headA 29 (0, 0))) (i : Nat) (hi : i < 4) : w.rangeAt q (i * 10) (headR i).cells := fun j v hv => by
  have hj : j < 10 := by have := (List.getElem?_eq_some_iff.1 hv).1; simpa [OpR.cells] using this
  rw [cell_of_row _ _ _ _ _ _ h]
  have h1 : i = 0 ∨ i = 1 ∨ i = 2 ∨ i = 3 := by omega
  have h2 : j = 0 ∨ j = 1 ∨ j = 2 ∨ j = 3 ∨ j = 4 ∨ j = 5 ∨ j = 6 ∨ j = 7 ∨ j = 8 ∨ j = 9 := by omega
  rcases h1 with rfl | rfl | rfl | rfl <;> rcases h2 with rfl | rfl | rfl | rfl | rfl | rfl | rfl | rfl | rfl | rfl <;> exact hv

theorem head_is (i : Nat) (hi : i < 4) : -9223372036854775808 ≤ (headR i).a ∧ (headR i).a ≤ 9223372036854775807 ∧ (headR i).s.size ≤ 1125899906842624 ∧ (headR i).lv = .slice none 0 0 ∧ (i = 0 → mayB (headR i).K (headR i).M (headR i).O (headR i).S = true ∧ 1 ≤ (headR i).a ∧ (headR i).a ≤ 16 ∧ (headR i).k = 1) ∧ (1 ≤ i → 5 ≤ (headR i).k) := by
  have h1 : i = 0 ∨ i = 1 ∨ i = 2 ∨ i = 3 := by omega
  rcases h1 with rfl | rfl | rfl | rfl
  · exact ⟨by decide, by decide, by decide, rfl, fun _ => ⟨rfl, by decide, by decide, rfl⟩, fun h => by omega⟩
  · exact ⟨by decide, by decide, by decide, rfl, fun h => by omega, fun _ => by decide⟩
  · exact ⟨by decide, by decide, by decide, rfl, fun h => by omega, fun _ => by decide⟩
  · exact ⟨by decide, by decide, by decide, rfl, fun h => by omega, fun _ => by decide⟩

theorem WA.below {w w0 w' : World} {wb n nb : Nat} (h : WA w0 wb n nb w') (hb : Below w.heap.size w w0) (hw : w.heap.size ≤ wb) : Below w.heap.size w w' := by
  obtain ⟨f, col, s, bl, cl, xl, h, _⟩ := h
  exact below_chg hb h.below (fun k hk => by rw [hk]; exact hw)

theorem WA.block {w0 w' : World} {wb n nb : Nat} (h : WA w0 wb n nb w') {k : Nat} (hk : k < w0.heap.size) (hne : k ≠ wb) : w'.heap[k]? = w0.heap[k]? := by
  obtain ⟨f, col, s, bl, cl, xl, h, _⟩ := h
  exact h.below.block k hk hne

theorem WA.one {w0 w' : World} {wb n : Nat} (h : WA w0 wb n 1 w') : ∃ a cap, w'.cell? ⟨wb, 6, none⟩ = some (.slice a 1 cap) := by
  obtain ⟨f, col, s, bl, cl, xl, h, hl⟩ := h
  obtain ⟨g, cap, e, _⟩ := h.bs.cells (j := 0) (by omega)
  rw [hl] at e
  exact ⟨_, cap, by rw [← e]; exact h.row.cell (i := 6) (by omega)⟩

theorem WA.looks {w0 w' : World} {wb n nb : Nat} (h : WA w0 wb n nb w') (hn : n ≤ 1400000) : Calls Tryz.prog 10 #[.pointer (some ⟨wb, 0, none⟩)] w' fun e w2 => e = .returned (.bool true) ∧ WA w0 wb n nb w2 := by
  obtain ⟨f, col, s, bl, cl, xl, h, hl⟩ := h
  exact (looks_any wb f col (2 * n) s w' h.row h.lists (by omega)).mono fun e w2 ⟨he, hb⟩ => ⟨he, f, col, s, bl, cl, xl, h.on' hb, hl⟩

set_option maxRecDepth 100000 in
set_option maxHeartbeats 8000000 in
theorem all_any (v : Value) (l : List OpR) (w : World) (hl : l.length ≤ 1048576) (hat : OpsAt w v l) (hex : ∀ i, i < l.length → (l.getD i OpR.none).s.size ≤ 1125899906842624 ∧ ∃ L, L.length ≤ 8796093022208 ∧ TextsAt w (l.getD i OpR.none).lv L) :
    Calls Tryz.prog 6 #[v] w fun e w' => e = .returned (.bool true) ∧ Below w.heap.size w w' := by
  obtain ⟨ao, cap, rfl, hcap, hops⟩ := hat
  have HO := hide hops
  have HE := hide hex
  clear hops hex
  have hsm := fun W => small_any W
  have hrow := world0_at w
  have hbA := (Below.refl w.heap.size w).alloc (Nat.le_refl _) (worldB (.slice none 0 0))
  go_enter Tryz.func6, Tryz.ntmps6
  go_wp2_with fail
  refine (hsm _).mono ?_
  rintro e w1 ⟨rfl, hb1⟩
  have hb01 := hbA.trans (hb1.mono hbA.size)
  have hrow1 := hrow.of_block (hb1.block _ hrow.lt)
  clear hbA hrow hb1
  go_wp2_with fail
  refine (hsm _).mono ?_
  rintro e w2 ⟨rfl, hb2⟩
  have hb02 := hb01.trans (hb2.mono hb01.size)
  have hrow2 := hrow1.of_block (hb2.block _ hrow1.lt)
  clear hb01 hrow1 hb2 hsm
  have hbW := hb02.alloc hb02.size (.cells headA 29)
  have hbe := (Below.refl w2.heap.size w2).alloc (Nat.le_refl _) (.cells headA 29)
  have hrow3 := hrow2.of_block (hbe.block _ hrow2.lt)
  have hhd := heap_alloc_new w2 (.cells headA 29)
  have hne : w2.heap.size ≠ w.heap.size := by have := hrow2.lt; omega
  have hhl : w2.heap.size < (w2.alloc (.cells headA 29)).heap.size := by simp
  clear hbe hrow2 hb02
  go_upto_region 3 with fail
  generalize w2.alloc (.cells headA 29) = w0 at *
  generalize hhb : w2.heap.size = hb at *
  clear hhb
  have hwa := wa0 w0 w.heap.size hrow3
  clear hrow3
  go_wp2_with fail
  go_loopw [20] (fun iv wr => ∃ i : Nat, i ≤ 4 ∧ iv = .int .i64 (i : Int) ∧ WA w0 w.heap.size i (if i = 0 then 0 else 1) wr) (fun iv _ => 4 - (intOf iv).toNat)
  case atStart => exact ⟨0, by omega, rfl, hwa⟩
  case round =>
    clear hwa
    obtain ⟨i, hi, rfl, hJ⟩ := hrel
    by_cases hlt : i < 4
    · have hr1 := head_at ((hJ.block hhl hne).trans hhd) i hlt
      obtain ⟨a1, a2, hs, hlv, hf0, hf1⟩ := head_is i hlt
      have hii : (Tryz.prog.info? 29).map (·.size) = some (headR i).cells.length := Tryz.sizeOp
      have hce : (headR i).cells.toArray = opC (headR i).k (headR i).a (headR i).b (headR i).c (headR i).K (headR i).M (headR i).O (headR i).S (headR i).s (headR i).lv := rfl
      have hst := step_all w0 w.heap.size i (if i = 0 then 0 else 1) (headR i).k (headR i).a (headR i).b (headR i).c (headR i).K (headR i).M (headR i).O (headR i).S (headR i).s (headR i).lv [] wr hJ (by omega) hs (by simp) (by rw [hlv]; exact ⟨none, 0, rfl, Nat.le_refl _, fun k hk => by simp at hk⟩) a1 a2
      rw [← hce] at hst
      have HF : Hid (∀ nb' W, WA w0 w.heap.size (i + 1) nb' W → (5 ≤ (headR i).k → nb' = if i = 0 then 0 else 1) → (mayB (headR i).K (headR i).M (headR i).O (headR i).S = true → 1 ≤ (headR i).a → (headR i).a ≤ 16 → (headR i).k = 1 → nb' = (if i = 0 then 0 else 1) + 1) → WA w0 w.heap.size (i + 1) (if i + 1 = 0 then 0 else 1) W) := hide (fun nb' W h1 h2 h3 => by
        rw [if_neg (by omega)]
        by_cases e : i = 0
        · obtain ⟨m1, m2, m3, m4⟩ := hf0 e
          have h4 := h3 m1 m2 m3 m4
          rw [if_pos e, Nat.zero_add] at h4
          rw [h4] at h1; exact h1
        · have h4 := h2 (hf1 (by omega))
          rw [if_neg e] at h4
          rw [h4] at h1; exact h1)
      have i1 : (0 : Int) ≤ (i : Int) := by omega
      have i2 : (i : Int) < 4 := by omega
      clear hf0 hf1 hlv hs hce
      generalize hcs : (headR i).cells = cs at *
      clear hcs
      go_wp2_with (refine wpList_load_mid rfl 29 (.tmp 26) rfl hb (i * 10) rfl cs _ hr1 Tryz.underlying29 rfl hii ?_)
      refine hst.mono ?_
      rintro e w3 ⟨rfl, nb', h1, h2, h3⟩
      have hend := HF.out nb' w3 h1 h2 h3
      clear hst hr1 hii hJ HF h1 h2 h3
      go_wp2_with fail
      go_roundw
      case rel => exact ⟨i + 1, by omega, by go_num, hend⟩
      case measure => simp [intOf]; omega
    · have hi4 : i = 4 := by omega
      subst hi4
      have hJ1 : WA w0 w.heap.size 4 1 wr := hJ
      obtain ⟨a6, p6, k6⟩ := hJ1.one
      clear hJ
      obtain ⟨w4, hw4⟩ : ∃ w4, w4 = wr := ⟨_, rfl⟩
      subst hw4
      go_wp2_with fail
      clear k6
      go_loopw [40] (fun iv wr => ∃ (i nb : Nat), i ≤ l.length ∧ iv = .int .i64 (i : Int) ∧ WA w0 w.heap.size (i + 4) nb wr) (fun iv _ => l.length - (intOf iv).toNat)
      case atStart => exact ⟨0, 1, Nat.zero_le _, rfl, hJ1⟩
      case round =>
        clear hJ1
        obtain ⟨i, nb, hi, rfl, hJ⟩ := hrel
        by_cases hlt : i < l.length
        · obtain ⟨q, o, rfl, hq, hr, a1, a2⟩ := HO.out i hlt
          obtain ⟨hs, L, hL, htx⟩ := HE.out i hlt
          have hbr := hJ.below hbW (Nat.le_refl _)
          have hr1 := range_below hr hbr hq
          have hii : (Tryz.prog.info? 29).map (·.size) = some (l.getD i OpR.none).cells.length := Tryz.sizeOp
          have i1 : (0 : Int) ≤ (i : Int) := by omega
          have i2 : (i : Int) < (l.length : Int) := by omega
          have hce : (l.getD i OpR.none).cells.toArray = opC (l.getD i OpR.none).k (l.getD i OpR.none).a (l.getD i OpR.none).b (l.getD i OpR.none).c (l.getD i OpR.none).K (l.getD i OpR.none).M (l.getD i OpR.none).O (l.getD i OpR.none).S (l.getD i OpR.none).s (l.getD i OpR.none).lv := rfl
          clear hr
          generalize l.getD i OpR.none = R at *
          have hst := step_all w0 w.heap.size (i + 4) nb R.k R.a R.b R.c R.K R.M R.O R.S R.s R.lv L wr hJ (by omega) hs hL (htx.on hbr) a1 a2
          rw [← hce] at hst
          clear hce htx hs hL
          generalize hcs : R.cells = cs at *
          clear hcs
          go_wp2_with (refine wpList_load_mid rfl 29 (.tmp 46) rfl q (o + i * 10) rfl cs _ hr1 Tryz.underlying29 rfl hii ?_)
          refine hst.mono ?_
          rintro e w5 ⟨rfl, nb', h1, _, _⟩
          have hlk := h1.looks (by omega)
          clear hst hr1 hii hJ hbr h1
          go_wp2_with fail
          refine hlk.mono ?_
          rintro e w6 ⟨rfl, h2⟩
          clear hlk
          go_wp2_with fail
          go_roundw
          case rel =>
            refine ⟨_, _, _, _, _, _, _, _, _, _, _, _, _, _, _, _, _, _, _, ?_, rfl⟩
            exact ⟨i + 1, nb', by omega, by go_num, by rw [show i + 1 + 4 = i + 4 + 1 by omega]; exact h2⟩
          case measure => simp [intOf]; omega
        · have i2 : ¬ (i : Int) < (l.length : Int) := by omega
          have hend := hJ.below hbW (Nat.le_refl _)
          clear hJ
          go_wp2_with fail
          go_ret
          exact ⟨rfl, hend⟩

end Go.Proofs.YtnjaofkieajnlaaGreat

/- For every specification, whatever its four numbers, the law Rowed answers true: the program's Rows gives what the document asks, or its error; no condition. -/
namespace Go.Proofs.YtnjaofkieajnlaaGreat
open Go.ChangeShapes Go.WideShapes Go.ChangeAt Go.RowKit Go.Joins

theorem Tryz.own : ownKnob Tryz.prog.godebug = none := by kernel_rfl
theorem Tryz.laidOut : laidOutB Tryz.prog = true := by kernel_rfl
theorem Tryz.cellsSpec : Tryz.prog.cellsOf 25 = 4 := by kernel_rfl

end Go.Proofs.YtnjaofkieajnlaaGreat

/- A script that came in, opened. -/
namespace Go.Proofs.YtnjaofkieajnlaaGreat
open Go.ChangeShapes Go.WideShapes Go.ChangeAt Go.RowKit Go.Joins

theorem Tryz.cellsOp : Tryz.prog.cellsOf 29 = 10 := by kernel_rfl
theorem Tryz.cellsInt1 : Tryz.prog.cellsOf 3 = 1 := by kernel_rfl
theorem Tryz.cellsStr1 : Tryz.prog.cellsOf 9 = 1 := by kernel_rfl
theorem Tryz.bytesOp : Tryz.prog.bytesOf 29 = 104 := by kernel_rfl

theorem ex_cons {α : Type} {l : List α} {n : Nat} (h : l.length = n + 1) : ∃ a t, l = a :: t := by
  cases l with
  | nil => simp at h
  | cons a t => exact ⟨a, t, rfl⟩

theorem list10 {α : Type} {l : List α} (h : l.length = 10) : ∃ a0 a1 a2 a3 a4 a5 a6 a7 a8 a9, l = [a0, a1, a2, a3, a4, a5, a6, a7, a8, a9] := by
  obtain ⟨a0, l, rfl⟩ := ex_cons h
  obtain ⟨a1, l, rfl⟩ := ex_cons (l := l) (n := 8) (by simpa using h)
  obtain ⟨a2, l, rfl⟩ := ex_cons (l := l) (n := 7) (by simpa using h)
  obtain ⟨a3, l, rfl⟩ := ex_cons (l := l) (n := 6) (by simpa using h)
  obtain ⟨a4, l, rfl⟩ := ex_cons (l := l) (n := 5) (by simpa using h)
  obtain ⟨a5, l, rfl⟩ := ex_cons (l := l) (n := 4) (by simpa using h)
  obtain ⟨a6, l, rfl⟩ := ex_cons (l := l) (n := 3) (by simpa using h)
  obtain ⟨a7, l, rfl⟩ := ex_cons (l := l) (n := 2) (by simpa using h)
  obtain ⟨a8, l, rfl⟩ := ex_cons (l := l) (n := 1) (by simpa using h)
  obtain ⟨a9, l, rfl⟩ := ex_cons (l := l) (n := 0) (by simpa using h)
  have hl : l = [] := List.eq_nil_of_length_eq_zero (by simpa using h)
  subst hl
  exact ⟨_, _, _, _, _, _, _, _, _, _, rfl⟩

theorem list7 {α : Type} {l : List α} (h : l.length = 7) : ∃ a0 a1 a2 a3 a4 a5 a6, l = [a0, a1, a2, a3, a4, a5, a6] := by
  obtain ⟨a0, l, rfl⟩ := ex_cons (l := l) (n := 6) h
  obtain ⟨a1, l, rfl⟩ := ex_cons (l := l) (n := 5) (by simpa using h)
  obtain ⟨a2, l, rfl⟩ := ex_cons (l := l) (n := 4) (by simpa using h)
  obtain ⟨a3, l, rfl⟩ := ex_cons (l := l) (n := 3) (by simpa using h)
  obtain ⟨a4, l, rfl⟩ := ex_cons (l := l) (n := 2) (by simpa using h)
  obtain ⟨a5, l, rfl⟩ := ex_cons (l := l) (n := 1) (by simpa using h)
  obtain ⟨a6, l, rfl⟩ := ex_cons (l := l) (n := 0) (by simpa using h)
  have hl : l = [] := List.eq_nil_of_length_eq_zero (by simpa using h)
  subst hl
  exact ⟨_, _, _, _, _, _, _, rfl⟩

theorem list4 {α : Type} {l : List α} (h : l.length = 4) : ∃ a0 a1 a2 a3, l = [a0, a1, a2, a3] := by
  obtain ⟨a0, l, rfl⟩ := ex_cons (l := l) (n := 3) h
  obtain ⟨a1, l, rfl⟩ := ex_cons (l := l) (n := 2) (by simpa using h)
  obtain ⟨a2, l, rfl⟩ := ex_cons (l := l) (n := 1) (by simpa using h)
  obtain ⟨a3, l, rfl⟩ := ex_cons (l := l) (n := 0) (by simpa using h)
  have hl : l = [] := List.eq_nil_of_length_eq_zero (by simpa using h)
  subst hl
  exact ⟨_, _, _, _, rfl⟩

set_option maxRecDepth 100000 in
/-- One step, opened. -/
theorem op_open {H : Type} {enc : TypeId × Value → H} {W : World} {n : Nat} {cs : List Value} {x : DataW H × List MemPlace} (h : DataW.trod enc Tryz.prog W 0 (fun _ => true) true n 29 cs = some x) (hl : cs.length = 10) :
    ∃ R : OpR, cs = R.cells ∧ -9223372036854775808 ≤ R.a ∧ R.a ≤ 9223372036854775807 := by
  obtain ⟨xs, k, _, _, _, hxl, hf⟩ := DataW.trod_struct Tryz.underlying29 h
  obtain ⟨y0, y1, y2, y3, y4, y5, y6, rfl⟩ := list7 hxl
  obtain ⟨v0, v1, v2, v3, v4, v5, v6, v7, v8, v9, rfl⟩ := list10 hl
  have g0 : DataW.trod enc Tryz.prog W 0 (fun _ => true) true k 3 (([v0, v1, v2, v3, v4, v5, v6, v7, v8, v9].drop 0).take (Tryz.prog.cellsOf 3)) = some y0 := hf 0 _ rfl
  have g1 : DataW.trod enc Tryz.prog W 0 (fun _ => true) true k 3 (([v0, v1, v2, v3, v4, v5, v6, v7, v8, v9].drop 1).take (Tryz.prog.cellsOf 3)) = some y1 := hf 1 _ rfl
  have g2 : DataW.trod enc Tryz.prog W 0 (fun _ => true) true k 3 (([v0, v1, v2, v3, v4, v5, v6, v7, v8, v9].drop 2).take (Tryz.prog.cellsOf 3)) = some y2 := hf 2 _ rfl
  have g3 : DataW.trod enc Tryz.prog W 0 (fun _ => true) true k 3 (([v0, v1, v2, v3, v4, v5, v6, v7, v8, v9].drop 3).take (Tryz.prog.cellsOf 3)) = some y3 := hf 3 _ rfl
  have g4 : DataW.trod enc Tryz.prog W 0 (fun _ => true) true k 25 (([v0, v1, v2, v3, v4, v5, v6, v7, v8, v9].drop 4).take (Tryz.prog.cellsOf 25)) = some y4 := hf 4 _ rfl
  have g5 : DataW.trod enc Tryz.prog W 0 (fun _ => true) true k 9 (([v0, v1, v2, v3, v4, v5, v6, v7, v8, v9].drop 8).take (Tryz.prog.cellsOf 9)) = some y5 := hf 5 _ rfl
  simp only [Tryz.cellsInt1, Tryz.cellsStr1, Tryz.cellsSpec, List.drop_succ_cons, List.drop_zero, List.take_succ_cons, List.take_zero] at g0 g1 g2 g3 g4 g5
  obtain ⟨n0, e0, _, _⟩ := DataW.trod_int Tryz.underlying3 g0
  obtain ⟨n1, e1, _, w1⟩ := DataW.trod_int Tryz.underlying3 g1
  obtain ⟨n2, e2, _, _⟩ := DataW.trod_int Tryz.underlying3 g2
  obtain ⟨n3, e3, _, _⟩ := DataW.trod_int Tryz.underlying3 g3
  obtain ⟨s, e5, _, _⟩ := DataW.trod_string Tryz.underlying9 g5
  obtain ⟨zs, k2, _, _, _, hzl, hf2⟩ := DataW.trod_struct Tryz.underlying25 g4
  obtain ⟨z0, z1, z2, z3, rfl⟩ := list4 hzl
  have j0 : DataW.trod enc Tryz.prog W 0 (fun _ => true) true k2 3 (([v4, v5, v6, v7].drop 0).take (Tryz.prog.cellsOf 3)) = some z0 := hf2 0 _ rfl
  have j1 : DataW.trod enc Tryz.prog W 0 (fun _ => true) true k2 3 (([v4, v5, v6, v7].drop 1).take (Tryz.prog.cellsOf 3)) = some z1 := hf2 1 _ rfl
  have j2 : DataW.trod enc Tryz.prog W 0 (fun _ => true) true k2 3 (([v4, v5, v6, v7].drop 2).take (Tryz.prog.cellsOf 3)) = some z2 := hf2 2 _ rfl
  have j3 : DataW.trod enc Tryz.prog W 0 (fun _ => true) true k2 3 (([v4, v5, v6, v7].drop 3).take (Tryz.prog.cellsOf 3)) = some z3 := hf2 3 _ rfl
  simp only [Tryz.cellsInt1, List.drop_succ_cons, List.drop_zero, List.take_succ_cons, List.take_zero] at j0 j1 j2 j3
  obtain ⟨m0, f0, _, _⟩ := DataW.trod_int Tryz.underlying3 j0
  obtain ⟨m1, f1, _, _⟩ := DataW.trod_int Tryz.underlying3 j1
  obtain ⟨m2, f2, _, _⟩ := DataW.trod_int Tryz.underlying3 j2
  obtain ⟨m3, f3, _, _⟩ := DataW.trod_int Tryz.underlying3 j3
  simp only [List.cons.injEq, and_true] at e0 e1 e2 e3 e5 f0 f1 f2 f3
  subst e0 e1 e2 e3 e5 f0 f1 f2 f3
  have b1 := bounds_i64 w1
  exact ⟨⟨n0, n1, n2, n3, m0, m1, m2, m3, s, v9⟩, rfl, b1.1, b1.2⟩

set_option maxRecDepth 100000 in
/-- A script that came in. -/
theorem ops_open {H : Type} {enc : TypeId × Value → H} {W : World} {v : Value} {d : DataW H} {p : List MemPlace} {base : Nat} (hv : Value.okWide Tryz.prog W .any base 22 v)
    (h : DataW.Trod enc Tryz.prog W 0 (fun _ => true) true 22 v d p) : ∃ l : List OpR, OpsAt W v l ∧ (l = [] ∨ ∃ es sp, d = .slice es sp ∧ es.length = l.length) := by
  obtain ⟨a0, len, cap, rfl⟩ := okWide_slice Tryz.underlying22 hv
  obtain ⟨fuel, hf⟩ := h
  rcases Go.Deep.open_slice Tryz.underlying22 hf with ⟨hcs, _⟩ | ⟨x, len', cap', m, n, D, Pl, hcs, _, hl, _, hm, hx, hel⟩
  · simp [Value.cells] at hcs
    obtain ⟨rfl, rfl, rfl⟩ := hcs
    exact ⟨[], ⟨none, 0, rfl, Nat.le_refl _, fun k hk => by simp at hk⟩, Or.inl rfl⟩
  · simp [Value.cells] at hcs
    obtain ⟨rfl, rfl, rfl⟩ := hcs
    have hmc : m = cap := by simpa using hm
    have hspot : 0 < len → x.spot = none := fun h0 => by
      obtain ⟨cs, h1, h2⟩ := hel 0 (by omega)
      rw [Tryz.cellsOp] at h1
      obtain ⟨_, hlen, hcell⟩ := World.cells?_some h1
      obtain ⟨R, rfl, _, _⟩ := op_open h2 hlen
      have hc := hcell 0 (by omega)
      obtain ⟨b, off, sp⟩ := x
      cases sp with
      | none => rfl
      | some s =>
        rw [Go.Deep.add_add] at hc
        simp [Addr.add, World.cell?, OpR.cells] at hc
        split at hc <;> simp at hc
    have each : ∀ i, i < len → ∃ R : OpR, (∃ q o, x = ⟨q, o, none⟩ ∧ q < W.heap.size ∧ W.rangeAt q (o + i * 10) R.cells) ∧ -9223372036854775808 ≤ R.a ∧ R.a ≤ 9223372036854775807 := by
      intro i hi
      obtain ⟨cs, h1, h2⟩ := hel i (by omega)
      rw [Tryz.cellsOp] at h1
      obtain ⟨_, hlen, hcell⟩ := World.cells?_some h1
      obtain ⟨R, rfl, b1, b2⟩ := op_open h2 hlen
      refine ⟨R, ?_, b1, b2⟩
      obtain ⟨b, off, sp⟩ := x
      have h0 := hcell 0 (by omega)
      have hsp : sp = none := hspot (by omega)
      subst hsp
      refine ⟨b, off, rfl, ?_, fun j u hu => ?_⟩
      · rw [Addr.add_mid, Addr.add_mid] at h0
        exact block_lt_of_cell (h0.trans (show R.cells[0]? = some _ from rfl))
      · have hj : j < 10 := by have := (List.getElem?_eq_some_iff.1 hu).1; simpa [OpR.cells] using this
        have hj2 := hcell j hj
        rw [Addr.add_mid, Addr.add_mid] at hj2
        rw [hj2, hu]
    haveI : Inhabited OpR := ⟨OpR.none⟩
    obtain ⟨R, hR⟩ := Go.Deep.choose_lt each
    have hgl : ∀ i, i < len → ((List.range len).map R).getD i OpR.none = R i := fun i hi => by
      rw [List.getD_eq_getElem?_getD, List.getElem?_map, List.getElem?_range hi]; rfl
    refine ⟨(List.range len).map R, ⟨some x, cap, by simp, by simpa using hl, fun i hi => ?_⟩, Or.inr ⟨_, _, congrArg Prod.fst hx, by simp⟩⟩
    have hi' : i < len := by simpa using hi
    obtain ⟨⟨q, o, e1, e2, e3⟩, e4, e5⟩ := hR i hi'
    rw [hgl i hi']
    exact ⟨q, o, by rw [e1], e2, e3, e4, e5⟩

end Go.Proofs.YtnjaofkieajnlaaGreat
