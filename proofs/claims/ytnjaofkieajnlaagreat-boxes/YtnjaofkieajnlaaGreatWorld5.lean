/- The statement's own 'step' and 'plays' over the calls of boxes; the statement Boxes. -/
import Derived.Test.YtnjaofkieajnlaaGreatWorld3
import Derived.Test.YtnjaofkieajnlaaGreatWorld4
namespace Go.Proofs.YtnjaofkieajnlaaGreat
open Go.RowKit

theorem made_any (w0 : World) (wb : Nat) (bsv : Value) (bl : List PB) (k a b c K M O S : Int) (s : ByteArray) (lv : Value) (w : World) (hat : BoxesAt w0 w wb bsv bl) (hl : bl.length ≤ 4000000000000) :
    Calls Tryz.prog 11 #[.pointer (some ⟨wb, 0, none⟩), .agg (opC k a b c K M O S s lv)] w fun e w' => e = .returned (.bool true) ∧ ∃ bsv' bl', BoxesAt w0 w' wb bsv' bl' ∧ bl'.length ≤ bl.length + 1 := by
  cases hm : mayB K M O S
  · exact (made_bad w0 wb bsv bl k a b c K M O S s lv w hat hm).mono fun e w' h => ⟨h.1, bsv, bl, h.2, Nat.le_succ _⟩
  · obtain ⟨h1, h2, h3, h4, h5, h6, h7, h8⟩ := mayB_true hm
    obtain ⟨K, rfl⟩ := Int.eq_ofNat_of_zero_le (show 0 ≤ K by omega)
    obtain ⟨M, rfl⟩ := Int.eq_ofNat_of_zero_le (show 0 ≤ M by omega)
    obtain ⟨O, rfl⟩ := Int.eq_ofNat_of_zero_le (show 0 ≤ O by omega)
    obtain ⟨S, rfl⟩ := Int.eq_ofNat_of_zero_le (show 0 ≤ S by omega)
    by_cases ha : a < 1 ∨ 16 < a
    · exact (made_arg w0 wb bsv bl k a b c K M O S s lv w hat (by omega) (by omega) (by omega) (by omega) ha).mono fun e w' h => ⟨h.1, bsv, bl, h.2, Nat.le_succ _⟩
    · obtain ⟨z, rfl⟩ := Int.eq_ofNat_of_zero_le (show 0 ≤ a by omega)
      refine (made_ok w0 wb bsv bl k b c K M O S z s lv w hat hl (by omega) (by omega) (by omega) (by omega) (by omega)).mono fun e w' h => ?_
      obtain ⟨he, bsv', bl', h1, h2⟩ := h
      exact ⟨he, bsv', bl', h1, by omega⟩

set_option maxRecDepth 100000 in
set_option maxHeartbeats 8000000 in
theorem step_any (w0 : World) (wb : Nat) (bsv : Value) (bl : List PB) (k a b c K M O S : Int) (s : ByteArray) (lv : Value) (w : World) (hat : BoxesAt w0 w wb bsv bl) (hl : bl.length ≤ 4000000000000) (ha1 : -9223372036854775808 ≤ a) (ha2 : a ≤ 9223372036854775807) (hk : 1 ≤ k ∧ k ≤ 4) :
    Calls Tryz.prog 9 #[.pointer (some ⟨wb, 0, none⟩), .agg (opC k a b c K M O S s lv)] w fun e w' => e = .returned (.bool true) ∧ ∃ bsv' bl', BoxesAt w0 w' wb bsv' bl' ∧ bl'.length ≤ bl.length + 1 := by
  have hat1 := hat.on ((Below.refl _ _).alloc (Nat.le_refl _) (.cells (opC k a b c K M O S s lv) 29))
  have hop : (w.alloc (.cells (opC k a b c K M O S s lv) 29)).heap[w.heap.size]? = some (.cells (opC k a b c K M O S s lv) 29 (0, 0)) := heap_alloc_new w _
  go_enter Tryz.func9, Tryz.ntmps9
  by_cases h1 : k = 1
  · subst h1
    go_wp2_with fail
    refine (made_any w0 wb bsv bl 1 a b c K M O S s lv _ hat1 hl).mono ?_
    rintro e w1 ⟨rfl, hend⟩
    clear hat hat1 hop
    go_wp2_with fail
    go_ret
    exact ⟨rfl, hend⟩
  · have hk2 : k = 2 ∨ k = 3 ∨ k = 4 := by omega
    have hbx := boxed_any w0 wb bsv bl k a b c K M O S s lv _ hat1 ha1 ha2 hk2
    rcases hk2 with rfl | rfl | rfl
    all_goals
      go_wp2_with fail
      refine hbx.mono ?_
      rintro e w1 ⟨rfl, bl', h2, h3⟩
      clear hat hat1 hop hbx
      go_wp2_with fail
      go_ret
      exact ⟨rfl, bsv, bl', h2, by omega⟩

end Go.Proofs.YtnjaofkieajnlaaGreat

namespace Go.Proofs.YtnjaofkieajnlaaGreat
open Go.RowKit

set_option maxRecDepth 100000 in
set_option maxHeartbeats 8000000 in
theorem plays_any (v : Value) (l : List OpR) (lv0 : Value) (w : World) (hl : l.length ≤ 1400000000000) (hat : OpsAt w v l) :
    Calls Tryz.prog 7 #[v, .agg (opC 1 2 0 0 2 2 1 0 ⟨#[]⟩ lv0), .int .i64 1, .int .i64 4] w fun e w' => e = .returned (.bool true) ∧ Below w.heap.size w w' := by
  obtain ⟨ao, cap, rfl, hcap, hops⟩ := hat
  have HO := hide hops
  clear hops
  have hop : (w.alloc (.cells (opC 1 2 0 0 2 2 1 0 ⟨#[]⟩ lv0) 29)).heap[w.heap.size]? = some (.cells (opC 1 2 0 0 2 2 1 0 ⟨#[]⟩ lv0) 29 (0, 0)) := heap_alloc_new w _
  go_enter Tryz.func7, Tryz.ntmps7
  go_wp2_with fail
  have hbA : Below w.heap.size w ((w.alloc (.cells (opC 1 2 0 0 2 2 1 0 ⟨#[]⟩ lv0) 29)).alloc (worldB (.slice none 0 0))) := ((Below.refl _ _).alloc (Nat.le_refl _) _).alloc (by simp) _
  have hbx : BoxesAt w ((w.alloc (.cells (opC 1 2 0 0 2 2 1 0 ⟨#[]⟩ lv0) 29)).alloc (worldB (.slice none 0 0))) (w.heap.size + 1) (.slice none 0 0) [] :=
    ⟨heap_alloc2 w _ _, World.ownsRow_nil _ _ _ _, fun i hi => by simp at hi, fun i j hi => by simp at hi, Nat.le_succ _, fun k hk => by simp [Value.ownBlock] at hk, fun i hi => by simp at hi, hbA⟩
  refine (step_any w (w.heap.size + 1) (.slice none 0 0) [] 1 2 0 0 2 2 1 0 ⟨#[]⟩ lv0 _ hbx (by simp) (by decide) (by decide) (by decide)).mono ?_
  rintro e w1 ⟨rfl, bsv, bl, hb1, hb1l⟩
  clear hbA hbx hop
  go_wp2_with fail
  go_loopw [10, 11] (fun ov iv wr => ∃ (n : Nat) (bsv : Value) (bl : List PB), n ≤ l.length ∧ ov = .bool true ∧ iv = .int .i64 (n : Int) ∧ BoxesAt w wr (w.heap.size + 1) bsv bl ∧ bl.length ≤ n + 1) (fun _ iv _ => l.length - (intOf iv).toNat)
  case atStart => exact ⟨0, bsv, bl, Nat.zero_le _, rfl, rfl, hb1, by simpa using hb1l⟩
  case round =>
    clear hb1 hb1l
    obtain ⟨n, bsv, bl, hn, rfl, rfl, hbx, hbl⟩ := hrel
    by_cases hlt : n < l.length
    · obtain ⟨q, o, rfl, hq, hr, a1, a2⟩ := HO.out n hlt
      have hr1 := range_below hr hbx.below hq
      have hk0 := hr1 0 (.int .i64 (l.getD n OpR.none).k) rfl
      rw [Nat.add_zero] at hk0
      have hi : (Tryz.prog.info? 29).map (·.size) = some (l.getD n OpR.none).cells.length := Tryz.sizeOp
      have i1 : (0 : Int) ≤ (n : Int) := by omega
      have i2 : (n : Int) < (l.length : Int) := by omega
      have hce : (l.getD n OpR.none).cells.toArray = opC (l.getD n OpR.none).k (l.getD n OpR.none).a (l.getD n OpR.none).b (l.getD n OpR.none).c (l.getD n OpR.none).K (l.getD n OpR.none).M (l.getD n OpR.none).O (l.getD n OpR.none).S (l.getD n OpR.none).s (l.getD n OpR.none).lv := rfl
      clear hr
      generalize l.getD n OpR.none = R at *
      by_cases k1 : (1 : Int) ≤ R.k
      · have d1 : decide ((1 : Int) ≤ R.k) = true := decide_eq_true k1
        by_cases k2 : R.k ≤ 4
        · have hst := step_any w (w.heap.size + 1) bsv bl R.k R.a R.b R.c R.K R.M R.O R.S R.s R.lv wr hbx (by omega) a1 a2 ⟨k1, k2⟩
          rw [← hce] at hst
          have Hce := hide hce
          clear hce
          generalize hcs : R.cells = cs at *
          have Hcs := hide hcs
          clear hcs
          go_wp2_with (refine wpList_load_mid rfl 29 (.tmp 43) rfl q (o + n * 10) rfl cs _ hr1 Tryz.underlying29 rfl hi ?_)
          refine hst.mono ?_
          rintro e w2 ⟨rfl, bsv', bl', h2, h3⟩
          clear hst hbx hr1 hk0 hi
          go_wp2_with fail
          go_roundw
          case rel => exact ⟨n + 1, bsv', bl', by omega, rfl, by go_num, h2, by omega⟩
          case measure => simp [intOf]; omega
        · clear hce hi hr1
          go_wp2_with fail
          go_roundw
          case rel => exact ⟨n + 1, bsv, bl, by omega, rfl, by go_num, hbx, by omega⟩
          case measure => simp [intOf]; omega
      · have d1 : decide ((1 : Int) ≤ R.k) = false := decide_eq_false k1
        clear hce hi hr1
        go_wp2_with fail
        go_roundw
        case rel => exact ⟨n + 1, bsv, bl, by omega, rfl, by go_num, hbx, by omega⟩
        case measure => simp [intOf]; omega
    · go_wp2_with fail
      go_ret
      exact ⟨rfl, hbx.below⟩

end Go.Proofs.YtnjaofkieajnlaaGreat

namespace Go.Proofs.YtnjaofkieajnlaaGreat
open Go.RowKit

theorem Tryz.sizeSpec : (Tryz.prog.info? 25).map (·.size) = some 4 := by kernel_rfl

set_option maxRecDepth 100000 in
set_option maxHeartbeats 4000000 in
theorem small_any (w : World) :
    Calls Tryz.prog 8 #[] w fun e w' => e = .returned (specV 2 2 1 0) ∧ Below w.heap.size w w' := by
  go_enter Tryz.func8, Tryz.ntmps8
  go_wp2_with fail
  refine bodyPost_ret (v := specV 2 2 1 0) (results_cell_row Tryz.results8 _ _ w.heap.size 25 _ (0, 0) _ rfl (heap_alloc_new w _) Tryz.underlying25 rfl Tryz.sizeSpec) rfl ⟨rfl, (Below.refl _ _).alloc (Nat.le_refl _) _⟩

set_option maxRecDepth 100000 in
set_option maxHeartbeats 4000000 in
theorem boxes_any (v : Value) (l : List OpR) (w : World) (hl : l.length ≤ 1400000000000) (hat : OpsAt w v l) :
    Calls Tryz.prog 3 #[v] w fun e w' => e = .returned (.bool true) ∧ Below w.heap.size w w' := by
  go_enter Tryz.func3, Tryz.ntmps3
  go_wp2_with fail
  refine (small_any _).mono ?_
  rintro e w1 ⟨rfl, hb1⟩
  have hat1 : OpsAt w1 v l := by
    obtain ⟨ao, cap, h1, h2, h3⟩ := hat
    refine ⟨ao, cap, h1, h2, fun i hi => ?_⟩
    obtain ⟨q, o, g1, g2, g3, g4, g5⟩ := h3 i hi
    exact ⟨q, o, g1, Nat.lt_of_lt_of_le g2 hb1.size, range_below g3 hb1 g2, g4, g5⟩
  go_wp2_with fail
  refine (plays_any v l _ _ hl hat1).mono ?_
  rintro e w2 ⟨rfl, hb2⟩
  go_wp2_with fail
  go_ret
  exact ⟨rfl, hb1.trans (hb2.mono hb1.size)⟩

end Go.Proofs.YtnjaofkieajnlaaGreat
