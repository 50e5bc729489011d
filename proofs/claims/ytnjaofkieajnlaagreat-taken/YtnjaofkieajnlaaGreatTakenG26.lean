/- Texts of the proof, part 27. -/
import Derived.Below
import Derived.ChangeOld
import Derived.Deep.MidRow
import Derived.Deep.Slices
import Derived.Lib.SmallJoins
import Derived.OpenShut
import Derived.ProofKit
import Derived.Test.YtnjaofkieajnlaaGreatRows
import Derived.Test.YtnjaofkieajnlaaGreatTakenG25
import Derived.Test.YtnjaofkieajnlaaGreatTakenG7
import Derived.Test.YtnjaofkieajnlaaGreatTakenG8

/- The statement's own 'step' over the calls of inboxes. -/
namespace Go.Proofs.YtnjaofkieajnlaaGreat
open Go.RowKit

theorem Tryz.infoInbs : (Tryz.prog.info? 57).map (fun i => (i.zero, i.size, i.bytes)) = some (some (.agg #[.pointer none, .pointer none]), 2, 16) := by kernel_rfl

abbrev inb0 : Obj := inbB IS.zero (.slice none 0 0)

/-- What a step on inboxes leaves. -/
def InbStep (wb : Nat) (f : Nat → Value) (csv : Value) (cl : List PI) (w w' : World) : Prop :=
  ∃ csv' cl', w'.rowIs wb 39 14 (fun i => if i = 8 then csv' else f i) ∧ PairsAt inbK w' 57 csv' cl' ∧ cl'.length ≤ cl.length + 1 ∧ Chg (fun k => k = wb ∨ pfp inbK csv cl k) w w' ∧ (∀ k, pfp inbK csv' cl' k → pfp inbK csv cl k ∨ w.heap.size ≤ k)

set_option maxRecDepth 100000 in
set_option maxHeartbeats 8000000 in
theorem step_open (wb : Nat) (f : Nat → Value) (csv : Value) (cl : List PI) (a b c K M O S : Int) (s : ByteArray) (lv : Value) (w : World) (hrow : w.rowIs wb 39 14 f) (hf8 : f 8 = csv) (hat : PairsAt inbK w 57 csv cl) (hwn : ¬ pfp inbK csv cl wb) (hl : cl.length ≤ 4000000000000) :
    Calls Tryz.prog 9 #[.pointer (some ⟨wb, 0, none⟩), .agg (opC 9 a b c K M O S s lv)] w fun e w' => e = .returned (.bool true) ∧ InbStep wb f csv cl w w' := by
  obtain ⟨i0, hii, hz0, hz1, hz2⟩ := info_parts Tryz.infoInbs
  have hbA := (Below.refl w.heap.size w).alloc (Nat.le_refl _) (.cells (opC 9 a b c K M O S s lv) 29)
  have hop : (w.alloc (.cells (opC 9 a b c K M O S s lv) 29)).heap[w.heap.size]? = some (.cells (opC 9 a b c K M O S s lv) 29 (0, 0)) := heap_alloc_new w _
  obtain ⟨c0, _⟩ := op_cells hop
  have hwl := hrow.lt
  go_enter Tryz.func9, Tryz.ntmps9
  go_wp2_with fail
  refine (open_any _).mono ?_
  rintro e w1 ⟨p, rfl, hcn, hp, hb1⟩
  have hb01 : Below w.heap.size w w1 := hbA.trans (hb1.mono hbA.size)
  have hat1 := hat.on hb01
  have hrow1 : w1.rowIs wb 39 14 f := hrow.of_block (hb01.block wb hwl)
  have hcb : w1.cell? ⟨wb, 8, none⟩ = some csv := by rw [← hf8]; exact hrow1.cell (i := 8) (by omega)
  have hfb := hrow1.frozen 8
  have hwl1 := hrow1.lt
  have hpw : w.heap.size ≤ p := by simp at hp; omega
  have hpl := InbAt.lt hcn
  have hbR := (Below.refl w1.heap.size w1).alloc (Nat.le_refl _) (inb0)
  have hatR := hat1.on hbR
  have hpair : InbPair (w1.alloc (inb0)) ⟨p, w1.heap.size, .slice none 0 0, [], IS.zero⟩ :=
    ⟨InbAt.on hcn (Nat.le_refl _) hbR, ⟨heap_alloc_new w1 _, PartsAt.empty _, fun _ => rfl⟩, ISok.new⟩
  have hfpb : ∀ x, (PI.fp ⟨p, w1.heap.size, .slice none 0 0, [], IS.zero⟩ x) → x = p ∨ x = w1.heap.size := fun x hx => by
    rcases hx with hx | hx | hx | ⟨i, hi, _⟩
    · exact Or.inl hx
    · exact Or.inr hx
    · simp [Value.ownBlock] at hx
    · simp at hi
  have hcsw : csv.ownBlock ≠ some wb := fun e => hwn (Or.inl e)
  have hfin : ∀ g cap w3, w3.ownsRow 0 57 2 (.slice (some ⟨g, 0, none⟩) (cl.length + 1) cap) (cl.length + 1) (inbK.vals cl ++ [.pointer (some ⟨p, 0, none⟩), .pointer (some ⟨w1.heap.size, 0, none⟩)]) → (w1.alloc (inb0)).grownBy w3 csv.ownBlock → (csv.ownBlock = some g ∨ g = w1.heap.size + 1 + 1) →
      InbStep wb f csv cl w (w3.setCell ⟨wb, 8, none⟩ (.slice (some ⟨g, 0, none⟩) (cl.length + 1) cap)) := fun g cap w3 ho hg ha => by
    have hsz1 := hb01.size
    have hszR : (w1.alloc (inb0)).heap.size = w1.heap.size + 1 := by simp
    obtain ⟨u1, u2⟩ := hatR.snoc (b := ⟨p, w1.heap.size, .slice none 0 0, [], IS.zero⟩) (g := g) (cap := cap) hpair (fun x hx hx2 => by
      rcases hfpb x hx with rfl | rfl
      · have := hat.lt hx2
        omega
      · have := hat1.lt hx2
        omega) hg (by rw [Kind.vals_append]; exact ho) rfl (by rcases ha with h | h; exact Or.inl h; right; rw [hszR]; omega)
    have hnew : ∀ k, pfp inbK (.slice (some ⟨g, 0, none⟩) (cl.length + 1) cap) (cl ++ [⟨p, w1.heap.size, .slice none 0 0, [], IS.zero⟩]) k → pfp inbK csv cl k ∨ w.heap.size ≤ k := fun k hk => by
      rcases u2 k hk with h | h | h
      · exact Or.inl h
      · rcases hfpb k h with rfl | rfl
        · exact Or.inr hpw
        · right; omega
      · right; rw [hszR] at h; omega
    have hnw : ¬ pfp inbK (.slice (some ⟨g, 0, none⟩) (cl.length + 1) cap) (cl ++ [⟨p, w1.heap.size, .slice none 0 0, [], IS.zero⟩]) wb := fun h => by
      rcases hnew wb h with h | h
      · exact hwn h
      · omega
    have hrow3 : w3.rowIs wb 39 14 f := (hrow1.of_block (hbR.block wb hwl1)).of_block (hg.block wb (by rw [hszR]; omega) (fun e => hcsw e.symm))
    refine ⟨_, _, hrow3.set 8 _, u1.blocks (fun k hk => heap_setCell_other _ _ _ _ (by rintro rfl; exact hnw hk)), by simp, ?_, hnew⟩
    have hc1 : Chg (fun k => k = wb ∨ pfp inbK csv cl k) w (w1.alloc (inb0)) := (Chg.of_below hb01 _).alloc _
    exact (hc1.grown hg (fun k e => Or.inr (Or.inr (Or.inl e.symm.symm)))).setCell (a := ⟨wb, 8, none⟩) (Or.inr (Or.inl rfl)) _
  have HF := hide hfin
  have hown0 := hat1.own
  clear hfin hfpb hpair hatR hat hat1 hcn hop hrow hrow1 hbR hb1 hbA c0
  go_wp2_with (at_builtin; refine wpList_append_lies _ rfl (.tmp 55) (.tmp 60) 35 rfl 0 57 i0 (.agg #[.pointer none, .pointer none]) 2 16 Tryz.underlying35 hii hz0 hz1 hz2 rfl (by decide) _ _ _ rfl ((hown0.alloc _).alloc _) ⟨w1.heap.size + 1, 0, none⟩ 1 1 [.pointer (some ⟨p, 0, none⟩), .pointer (some ⟨w1.heap.size, 0, none⟩)] rfl rfl (World.news_of_block (cs := #[_, _]) (heap_alloc2 w1 _ _)) (by intro u hu; simp at hu; rcases hu with rfl | rfl <;> rfl) (by decide) (by unfold maxLen; omega) (by omega) (Nat.zero_le _) (w1.heap.size + 1 + 1) (by simp) ?_)
  intro g cap w3 hown3 hgr3 hat4 hlt3
  have hgr := grownBy_of_alloc (grownBy_of_alloc hgr3)
  have q6 := (hgr.cell_far ⟨wb, 8, none⟩ hwl1 (fun e => hcsw e.symm)).trans hcb
  have f6 := (hgr.frozen_far ⟨wb, 8, none⟩ hwl1 (fun e => hcsw e.symm)).trans hfb
  have hend := HF.out g cap w3 hown3 (grownBy_of_alloc hgr3) hat4
  clear HF hown3 hgr3 hgr hat4 hown0 hcb hfb
  go_wp2_with fail
  go_ret
  exact ⟨rfl, hend⟩

set_option maxRecDepth 100000 in
set_option maxHeartbeats 8000000 in
theorem step_inb (wb : Nat) (f : Nat → Value) (csv : Value) (cl : List PI) (k a b c K M O S : Int) (s : ByteArray) (lv : Value) (w : World) (hrow : w.rowIs wb 39 14 f) (hf8 : f 8 = csv) (hat : PairsAt inbK w 57 csv cl) (hwn : ¬ pfp inbK csv cl wb) (hl : cl.length ≤ 4000000000000) (ha1 : -9223372036854775808 ≤ a) (ha2 : a ≤ 9223372036854775807) (hk : 9 ≤ k ∧ k ≤ 12) :
    Calls Tryz.prog 9 #[.pointer (some ⟨wb, 0, none⟩), .agg (opC k a b c K M O S s lv)] w fun e w' => e = .returned (.bool true) ∧ InbStep wb f csv cl w w' := by
  by_cases h5 : k = 9
  · subst h5
    exact step_open wb f csv cl a b c K M O S s lv w hrow hf8 hat hwn hl
  · have hk2 : k = 10 ∨ k = 11 ∨ k = 12 := by omega
    have hbA := (Below.refl w.heap.size w).alloc (Nat.le_refl _) (.cells (opC k a b c K M O S s lv) 29)
    have hop : (w.alloc (.cells (opC k a b c K M O S s lv) 29)).heap[w.heap.size]? = some (.cells (opC k a b c K M O S s lv) 29 (0, 0)) := heap_alloc_new w _
    have hwl := hrow.lt
    have hrowA : (w.alloc (.cells (opC k a b c K M O S s lv) 29)).rowIs wb 39 14 f := hrow.of_block (hbA.block wb hwl)
    have hhe := taken_any wb csv cl k a b c K M O S s lv _ (by rw [← hf8]; exact hrowA.cell (i := 8) (by omega)) hrowA.lt (hat.on hbA) ha1 ha2 hk2
    have hfin : ∀ w', (∃ cl', PairsAt inbK w' 57 csv cl' ∧ cl'.length = cl.length ∧ Chg (pfp inbK csv cl) (w.alloc (.cells (opC k a b c K M O S s lv) 29)) w' ∧ (∀ k_1, pfp inbK csv cl' k_1 → pfp inbK csv cl k_1 ∨ (w.alloc (.cells (opC k a b c K M O S s lv) 29)).heap.size ≤ k_1)) → InbStep wb f csv cl w w' := by
      rintro w' ⟨cl', h1, h2, h3, h4⟩
      refine ⟨csv, cl', (hrowA.of_block (h3.block wb hrowA.lt hwn)).congr (fun i _ => ?_), h1, by omega, (chg_below hbA h3).mono (fun k _ h => Or.inr h), fun k hk => ?_⟩
      · by_cases e : i = 8
        · rw [if_pos e, e, hf8]
        · rw [if_neg e]
      · rcases h4 k hk with h | h
        · exact Or.inl h
        · right; have := hbA.size; omega
    have HF := hide hfin
    clear hfin hrowA hat hrow
    go_enter Tryz.func9, Tryz.ntmps9
    rcases hk2 with rfl | rfl | rfl
    all_goals
      go_wp2_with fail
      refine hhe.mono ?_
      rintro e w1 ⟨rfl, h2⟩
      have hend := HF.out w1 h2
      clear hop hhe h2 HF hbA
      go_wp2_with fail
      go_ret
      exact ⟨rfl, hend⟩

end Go.Proofs.YtnjaofkieajnlaaGreat

/- The statement's own 'plays', for any kinds of steps. -/
namespace Go.Proofs.YtnjaofkieajnlaaGreat
open Go.RowKit

/-- A world of which nothing has come. -/
def world0 (i : Nat) : Value := #[.int .i64 0, .bool false, .slice none 0 0, .slice none 0 0, .slice none 0 0, .slice none 0 0, .slice none 0 0, .slice none 0 0, .slice none 0 0, .slice none 0 0, .slice none 0 0, .slice none 0 0, .slice none 0 0, .slice none 0 0].getD i undef

theorem world0_at (w : World) : (w.alloc (worldB (.slice none 0 0))).rowIs w.heap.size 39 14 world0 := by
  refine ⟨_, heap_alloc_new w _, rfl, fun i hi => ?_⟩
  have : i = 0 ∨ i = 1 ∨ i = 2 ∨ i = 3 ∨ i = 4 ∨ i = 5 ∨ i = 6 ∨ i = 7 ∨ i = 8 ∨ i = 9 ∨ i = 10 ∨ i = 11 ∨ i = 12 ∨ i = 13 := by omega
  rcases this with rfl | rfl | rfl | rfl | rfl | rfl | rfl | rfl | rfl | rfl | rfl | rfl | rfl | rfl <;> rfl

set_option maxRecDepth 100000 in
set_option maxHeartbeats 8000000 in
theorem plays_gen (v : Value) (l : List OpR) (fo : Array Value) (kf af bf cf Kf Mf Of Sf : Int) (sf : ByteArray) (lf : Value) (hfo : fo = opC kf af bf cf Kf Mf Of Sf sf lf) (lo hi : Int) (w : World) (J : Nat → World → Prop) (hl : l.length ≤ 1400000000000) (hat : OpsAt w v l)
    (hbel : ∀ n W, J n W → Below w.heap.size w W)
    (hfirst : Calls Tryz.prog 9 #[.pointer (some ⟨w.heap.size + 1, 0, none⟩), .agg fo] ((w.alloc (.cells fo 29)).alloc (worldB (.slice none 0 0))) fun e w' => e = .returned (.bool true) ∧ ∃ n, n ≤ 1 ∧ J n w')
    (hstep : ∀ (n : Nat) (W : World) (R : OpR), n ≤ 1400000000001 → J n W → -9223372036854775808 ≤ R.a → R.a ≤ 9223372036854775807 → lo ≤ R.k → R.k ≤ hi → Calls Tryz.prog 9 #[.pointer (some ⟨w.heap.size + 1, 0, none⟩), .agg (opC R.k R.a R.b R.c R.K R.M R.O R.S R.s R.lv)] W fun e w' => e = .returned (.bool true) ∧ ∃ n', n' ≤ n + 1 ∧ J n' w') :
    Calls Tryz.prog 7 #[v, .agg fo, .int .i64 lo, .int .i64 hi] w fun e w' => e = .returned (.bool true) ∧ Below w.heap.size w w' := by
  obtain ⟨ao, cap, rfl, hcap, hops⟩ := hat
  have HO := hide hops
  clear hops
  subst hfo
  have hop : (w.alloc (.cells (opC kf af bf cf Kf Mf Of Sf sf lf) 29)).heap[w.heap.size]? = some (.cells (opC kf af bf cf Kf Mf Of Sf sf lf) 29 (0, 0)) := heap_alloc_new w _
  go_enter Tryz.func7, Tryz.ntmps7
  go_wp2_with fail
  refine hfirst.mono ?_
  rintro e w1 ⟨rfl, n1, hn1, hJ1⟩
  clear hop hfirst
  go_wp2_with fail
  go_loopw [10, 11] (fun ov iv wr => ∃ (n m : Nat), n ≤ l.length ∧ ov = .bool true ∧ iv = .int .i64 (n : Int) ∧ J m wr ∧ m ≤ n + 1) (fun _ iv _ => l.length - (intOf iv).toNat)
  case atStart => exact ⟨0, n1, Nat.zero_le _, rfl, rfl, hJ1, by omega⟩
  case round =>
    clear hJ1 hn1
    obtain ⟨n, m, hn, rfl, rfl, hJ, hm⟩ := hrel
    by_cases hlt : n < l.length
    · obtain ⟨q, o, rfl, hq, hr, a1, a2⟩ := HO.out n hlt
      have hr1 := range_below hr (hbel m wr hJ) hq
      have hk0 := hr1 0 (.int .i64 (l.getD n OpR.none).k) rfl
      rw [Nat.add_zero] at hk0
      have hii : (Tryz.prog.info? 29).map (·.size) = some (l.getD n OpR.none).cells.length := Tryz.sizeOp
      have i1 : (0 : Int) ≤ (n : Int) := by omega
      have i2 : (n : Int) < (l.length : Int) := by omega
      have hce : (l.getD n OpR.none).cells.toArray = opC (l.getD n OpR.none).k (l.getD n OpR.none).a (l.getD n OpR.none).b (l.getD n OpR.none).c (l.getD n OpR.none).K (l.getD n OpR.none).M (l.getD n OpR.none).O (l.getD n OpR.none).S (l.getD n OpR.none).s (l.getD n OpR.none).lv := rfl
      clear hr
      generalize l.getD n OpR.none = R at *
      by_cases k1 : lo ≤ R.k
      · have d1 : decide (lo ≤ R.k) = true := decide_eq_true k1
        by_cases k2 : R.k ≤ hi
        · have hst := hstep m wr R (by omega) hJ a1 a2 k1 k2
          rw [← hce] at hst
          have Hce := hide hce
          clear hce
          generalize hcs : R.cells = cs at *
          have Hcs := hide hcs
          clear hcs
          go_wp2_with (refine wpList_load_mid rfl 29 (.tmp 43) rfl q (o + n * 10) rfl cs _ hr1 Tryz.underlying29 rfl hii ?_)
          refine hst.mono ?_
          rintro e w2 ⟨rfl, n', h2, h3⟩
          clear hst hr1 hk0 hii hJ
          go_wp2_with fail
          go_roundw
          case rel => exact ⟨n + 1, n', by omega, rfl, by go_num, h3, by omega⟩
          case measure => simp [intOf]; omega
        · have d2 : decide (R.k ≤ hi) = false := decide_eq_false k2
          clear hce hii hr1
          go_wp2_with fail
          go_roundw
          case rel => exact ⟨n + 1, m, by omega, rfl, by go_num, hJ, by omega⟩
          case measure => simp [intOf]; omega
      · have d1 : decide (lo ≤ R.k) = false := decide_eq_false k1
        clear hce hii hr1
        go_wp2_with fail
        go_roundw
        case rel => exact ⟨n + 1, m, by omega, rfl, by go_num, hJ, by omega⟩
        case measure => simp [intOf]; omega
    · go_wp2_with fail
      go_ret
      exact ⟨rfl, hbel m _ hJ⟩

end Go.Proofs.YtnjaofkieajnlaaGreat

/- The statement Taken, walked. -/
namespace Go.Proofs.YtnjaofkieajnlaaGreat
open Go.RowKit

/-- The statement's world, with inboxes alone. -/
def InbsIn (w0 : World) (n : Nat) (w : World) : Prop :=
  ∃ csv cl, w.rowIs (w0.heap.size + 1) 39 14 (fun i => if i = 8 then csv else world0 i) ∧ PairsAt inbK w 57 csv cl ∧ cl.length ≤ n ∧ (∀ k, pfp inbK csv cl k → w0.heap.size + 2 ≤ k) ∧ Below w0.heap.size w0 w

theorem InbsIn.step {w0 w w' : World} {n : Nat} {csv : Value} {cl : List PI} (hb : Below w0.heap.size w0 w) (hln : cl.length ≤ n) (hnew : ∀ k, pfp inbK csv cl k → w0.heap.size + 2 ≤ k) (hsz : w0.heap.size + 2 ≤ w.heap.size) (h : InbStep (w0.heap.size + 1) (fun i => if i = 8 then csv else world0 i) csv cl w w') : ∃ n', n' ≤ n + 1 ∧ InbsIn w0 n' w' := by
  obtain ⟨csv', cl', h1, h2, h3, h4, h5⟩ := h
  refine ⟨n + 1, Nat.le_refl _, csv', cl', h1.congr (fun i _ => ?_), h2, by omega, fun k hk => ?_, ?_⟩
  · by_cases e : i = 8
    · rw [if_pos e, if_pos e]
    · rw [if_neg e, if_neg e]; exact if_neg e
  · rcases h5 k hk with h | h
    · exact hnew k h
    · omega
  · exact below_chg hb h4 (fun k hk => by
      rcases hk with rfl | hk
      · omega
      · have := hnew k hk; omega)

set_option maxRecDepth 100000 in
set_option maxHeartbeats 4000000 in
theorem takenAll_any (v : Value) (l : List OpR) (w : World) (hl : l.length ≤ 1400000000000) (hat : OpsAt w v l) :
    Calls Tryz.prog 5 #[v] w fun e w' => e = .returned (.bool true) ∧ Below w.heap.size w w' := by
  have hpl := plays_gen v l (opC 9 0 0 0 0 0 0 0 ⟨#[]⟩ (.slice none 0 0)) 9 0 0 0 0 0 0 0 ⟨#[]⟩ (.slice none 0 0) rfl 9 12 w (InbsIn w) hl hat (fun n W h => by obtain ⟨_, _, _, _, _, _, h6⟩ := h; exact h6) (by
    have hbA : Below w.heap.size w ((w.alloc (.cells (opC 9 0 0 0 0 0 0 0 ⟨#[]⟩ (.slice none 0 0)) 29)).alloc (worldB (.slice none 0 0))) := ((Below.refl _ _).alloc (Nat.le_refl _) _).alloc (by simp) _
    have hrow := world0_at (w.alloc (.cells (opC 9 0 0 0 0 0 0 0 ⟨#[]⟩ (.slice none 0 0)) 29))
    rw [World.size_alloc] at hrow
    have hrow2 : ((w.alloc (.cells (opC 9 0 0 0 0 0 0 0 ⟨#[]⟩ (.slice none 0 0)) 29)).alloc (worldB (.slice none 0 0))).rowIs (w.heap.size + 1) 39 14 (fun i => if i = 8 then .slice none 0 0 else world0 i) := hrow.congr (fun i _ => by
      by_cases e : i = 8
      · rw [if_pos e, e]; rfl
      · rw [if_neg e])
    have hno : ∀ k, ¬ pfp inbK (.slice none 0 0) [] k := fun k hk => by
      rcases hk with hk | ⟨i, hi, _⟩
      · simp [Value.ownBlock] at hk
      · simp at hi
    refine (step_inb (w.heap.size + 1) _ (.slice none 0 0) [] 9 0 0 0 0 0 0 0 ⟨#[]⟩ (.slice none 0 0) _ hrow2 rfl (PairsAt.empty _ _ _) (hno _) (by simp) (by decide) (by decide) (by decide)).mono fun e w' h => ⟨h.1, ?_⟩
    obtain ⟨n, hn, hJ⟩ := InbsIn.step (n := 0) hbA (by simp) (fun k hk => absurd hk (hno k)) (by simp) h.2
    exact ⟨n, by omega, hJ⟩) (fun n W R hn hJ a1 a2 k1 k2 => by
    obtain ⟨csv, cl, h1, h2, h3, h4, h5⟩ := hJ
    have hlt := h1.lt
    refine (step_inb (w.heap.size + 1) _ csv cl R.k R.a R.b R.c R.K R.M R.O R.S R.s R.lv W h1 rfl h2 (fun hk => by have := h4 _ hk; omega) (by omega) a1 a2 ⟨k1, k2⟩).mono fun e w' h => ⟨h.1, ?_⟩
    exact InbsIn.step h5 h3 h4 (by omega) h.2)
  go_enter Tryz.func5, Tryz.ntmps5
  go_wp2_with fail
  refine hpl.mono ?_
  rintro e w2 ⟨rfl, hb2⟩
  clear hpl
  go_wp2_with fail
  go_ret
  exact ⟨rfl, hb2⟩

end Go.Proofs.YtnjaofkieajnlaaGreat

/- For every specification, whatever its four numbers, the law Rowed answers true: the program's Rows gives what the document asks, or its error; no condition. -/
namespace Go.Proofs.YtnjaofkieajnlaaGreat
open Go.ChangeShapes Go.WideShapes Go.ChangeAt Go.RowKit Go.Joins

theorem Tryz.own : ownKnob Tryz.prog.godebug = none := by kernel_rfl
theorem Tryz.laidOut : laidOutB Tryz.prog = true := by kernel_rfl
theorem Tryz.cellsSpec : Tryz.prog.cellsOf 25 = 4 := by kernel_rfl

end Go.Proofs.YtnjaofkieajnlaaGreat

/- A script that came in, opened. -/
namespace Go.Proofs.YtnjaofkieajnlaaGreat
open Go.ChangeShapes Go.WideShapes Go.ChangeAt Go.RowKit Go.Joins

theorem Tryz.cellsOp : Tryz.prog.cellsOf 29 = 10 := by kernel_rfl
theorem Tryz.cellsInt1 : Tryz.prog.cellsOf 3 = 1 := by kernel_rfl
theorem Tryz.cellsStr1 : Tryz.prog.cellsOf 9 = 1 := by kernel_rfl
theorem Tryz.bytesOp : Tryz.prog.bytesOf 29 = 104 := by kernel_rfl

theorem ex_cons {α : Type} {l : List α} {n : Nat} (h : l.length = n + 1) : ∃ a t, l = a :: t := by
  cases l with
  | nil => simp at h
  | cons a t => exact ⟨a, t, rfl⟩

theorem list10 {α : Type} {l : List α} (h : l.length = 10) : ∃ a0 a1 a2 a3 a4 a5 a6 a7 a8 a9, l = [a0, a1, a2, a3, a4, a5, a6, a7, a8, a9] := by
  obtain ⟨a0, l, rfl⟩ := ex_cons h
  obtain ⟨a1, l, rfl⟩ := ex_cons (l := l) (n := 8) (by simpa using h)
  obtain ⟨a2, l, rfl⟩ := ex_cons (l := l) (n := 7) (by simpa using h)
  obtain ⟨a3, l, rfl⟩ := ex_cons (l := l) (n := 6) (by simpa using h)
  obtain ⟨a4, l, rfl⟩ := ex_cons (l := l) (n := 5) (by simpa using h)
  obtain ⟨a5, l, rfl⟩ := ex_cons (l := l) (n := 4) (by simpa using h)
  obtain ⟨a6, l, rfl⟩ := ex_cons (l := l) (n := 3) (by simpa using h)
  obtain ⟨a7, l, rfl⟩ := ex_cons (l := l) (n := 2) (by simpa using h)
  obtain ⟨a8, l, rfl⟩ := ex_cons (l := l) (n := 1) (by simpa using h)
  obtain ⟨a9, l, rfl⟩ := ex_cons (l := l) (n := 0) (by simpa using h)
  have hl : l = [] := List.eq_nil_of_length_eq_zero (by simpa using h)
  subst hl
  exact ⟨_, _, _, _, _, _, _, _, _, _, rfl⟩

theorem list7 {α : Type} {l : List α} (h : l.length = 7) : ∃ a0 a1 a2 a3 a4 a5 a6, l = [a0, a1, a2, a3, a4, a5, a6] := by
  obtain ⟨a0, l, rfl⟩ := ex_cons (l := l) (n := 6) h
  obtain ⟨a1, l, rfl⟩ := ex_cons (l := l) (n := 5) (by simpa using h)
  obtain ⟨a2, l, rfl⟩ := ex_cons (l := l) (n := 4) (by simpa using h)
  obtain ⟨a3, l, rfl⟩ := ex_cons (l := l) (n := 3) (by simpa using h)
  obtain ⟨a4, l, rfl⟩ := ex_cons (l := l) (n := 2) (by simpa using h)
  obtain ⟨a5, l, rfl⟩ := ex_cons (l := l) (n := 1) (by simpa using h)
  obtain ⟨a6, l, rfl⟩ := ex_cons (l := l) (n := 0) (by simpa using h)
  have hl : l = [] := List.eq_nil_of_length_eq_zero (by simpa using h)
  subst hl
  exact ⟨_, _, _, _, _, _, _, rfl⟩

theorem list4 {α : Type} {l : List α} (h : l.length = 4) : ∃ a0 a1 a2 a3, l = [a0, a1, a2, a3] := by
  obtain ⟨a0, l, rfl⟩ := ex_cons (l := l) (n := 3) h
  obtain ⟨a1, l, rfl⟩ := ex_cons (l := l) (n := 2) (by simpa using h)
  obtain ⟨a2, l, rfl⟩ := ex_cons (l := l) (n := 1) (by simpa using h)
  obtain ⟨a3, l, rfl⟩ := ex_cons (l := l) (n := 0) (by simpa using h)
  have hl : l = [] := List.eq_nil_of_length_eq_zero (by simpa using h)
  subst hl
  exact ⟨_, _, _, _, rfl⟩

set_option maxRecDepth 100000 in
/-- One step, opened. -/
theorem op_open {H : Type} {enc : TypeId × Value → H} {W : World} {n : Nat} {cs : List Value} {x : DataW H × List MemPlace} (h : DataW.trod enc Tryz.prog W 0 (fun _ => true) true n 29 cs = some x) (hl : cs.length = 10) :
    ∃ R : OpR, cs = R.cells ∧ -9223372036854775808 ≤ R.a ∧ R.a ≤ 9223372036854775807 := by
  obtain ⟨xs, k, _, _, _, hxl, hf⟩ := DataW.trod_struct Tryz.underlying29 h
  obtain ⟨y0, y1, y2, y3, y4, y5, y6, rfl⟩ := list7 hxl
  obtain ⟨v0, v1, v2, v3, v4, v5, v6, v7, v8, v9, rfl⟩ := list10 hl
  have g0 : DataW.trod enc Tryz.prog W 0 (fun _ => true) true k 3 (([v0, v1, v2, v3, v4, v5, v6, v7, v8, v9].drop 0).take (Tryz.prog.cellsOf 3)) = some y0 := hf 0 _ rfl
  have g1 : DataW.trod enc Tryz.prog W 0 (fun _ => true) true k 3 (([v0, v1, v2, v3, v4, v5, v6, v7, v8, v9].drop 1).take (Tryz.prog.cellsOf 3)) = some y1 := hf 1 _ rfl
  have g2 : DataW.trod enc Tryz.prog W 0 (fun _ => true) true k 3 (([v0, v1, v2, v3, v4, v5, v6, v7, v8, v9].drop 2).take (Tryz.prog.cellsOf 3)) = some y2 := hf 2 _ rfl
  have g3 : DataW.trod enc Tryz.prog W 0 (fun _ => true) true k 3 (([v0, v1, v2, v3, v4, v5, v6, v7, v8, v9].drop 3).take (Tryz.prog.cellsOf 3)) = some y3 := hf 3 _ rfl
  have g4 : DataW.trod enc Tryz.prog W 0 (fun _ => true) true k 25 (([v0, v1, v2, v3, v4, v5, v6, v7, v8, v9].drop 4).take (Tryz.prog.cellsOf 25)) = some y4 := hf 4 _ rfl
  have g5 : DataW.trod enc Tryz.prog W 0 (fun _ => true) true k 9 (([v0, v1, v2, v3, v4, v5, v6, v7, v8, v9].drop 8).take (Tryz.prog.cellsOf 9)) = some y5 := hf 5 _ rfl
  simp only [Tryz.cellsInt1, Tryz.cellsStr1, Tryz.cellsSpec, List.drop_succ_cons, List.drop_zero, List.take_succ_cons, List.take_zero] at g0 g1 g2 g3 g4 g5
  obtain ⟨n0, e0, _, _⟩ := DataW.trod_int Tryz.underlying3 g0
  obtain ⟨n1, e1, _, w1⟩ := DataW.trod_int Tryz.underlying3 g1
  obtain ⟨n2, e2, _, _⟩ := DataW.trod_int Tryz.underlying3 g2
  obtain ⟨n3, e3, _, _⟩ := DataW.trod_int Tryz.underlying3 g3
  obtain ⟨s, e5, _, _⟩ := DataW.trod_string Tryz.underlying9 g5
  obtain ⟨zs, k2, _, _, _, hzl, hf2⟩ := DataW.trod_struct Tryz.underlying25 g4
  obtain ⟨z0, z1, z2, z3, rfl⟩ := list4 hzl
  have j0 : DataW.trod enc Tryz.prog W 0 (fun _ => true) true k2 3 (([v4, v5, v6, v7].drop 0).take (Tryz.prog.cellsOf 3)) = some z0 := hf2 0 _ rfl
  have j1 : DataW.trod enc Tryz.prog W 0 (fun _ => true) true k2 3 (([v4, v5, v6, v7].drop 1).take (Tryz.prog.cellsOf 3)) = some z1 := hf2 1 _ rfl
  have j2 : DataW.trod enc Tryz.prog W 0 (fun _ => true) true k2 3 (([v4, v5, v6, v7].drop 2).take (Tryz.prog.cellsOf 3)) = some z2 := hf2 2 _ rfl
  have j3 : DataW.trod enc Tryz.prog W 0 (fun _ => true) true k2 3 (([v4, v5, v6, v7].drop 3).take (Tryz.prog.cellsOf 3)) = some z3 := hf2 3 _ rfl
  simp only [Tryz.cellsInt1, List.drop_succ_cons, List.drop_zero, List.take_succ_cons, List.take_zero] at j0 j1 j2 j3
  obtain ⟨m0, f0, _, _⟩ := DataW.trod_int Tryz.underlying3 j0
  obtain ⟨m1, f1, _, _⟩ := DataW.trod_int Tryz.underlying3 j1
  obtain ⟨m2, f2, _, _⟩ := DataW.trod_int Tryz.underlying3 j2
  obtain ⟨m3, f3, _, _⟩ := DataW.trod_int Tryz.underlying3 j3
  simp only [List.cons.injEq, and_true] at e0 e1 e2 e3 e5 f0 f1 f2 f3
  subst e0 e1 e2 e3 e5 f0 f1 f2 f3
  have b1 := bounds_i64 w1
  exact ⟨⟨n0, n1, n2, n3, m0, m1, m2, m3, s, v9⟩, rfl, b1.1, b1.2⟩

set_option maxRecDepth 100000 in
/-- A script that came in. -/
theorem ops_open {H : Type} {enc : TypeId × Value → H} {W : World} {v : Value} {d : DataW H} {p : List MemPlace} {base : Nat} (hv : Value.okWide Tryz.prog W .any base 22 v)
    (h : DataW.Trod enc Tryz.prog W 0 (fun _ => true) true 22 v d p) : ∃ l : List OpR, OpsAt W v l ∧ (l = [] ∨ ∃ es sp, d = .slice es sp ∧ es.length = l.length) := by
  obtain ⟨a0, len, cap, rfl⟩ := okWide_slice Tryz.underlying22 hv
  obtain ⟨fuel, hf⟩ := h
  rcases Go.Deep.open_slice Tryz.underlying22 hf with ⟨hcs, _⟩ | ⟨x, len', cap', m, n, D, Pl, hcs, _, hl, _, hm, hx, hel⟩
  · simp [Value.cells] at hcs
    obtain ⟨rfl, rfl, rfl⟩ := hcs
    exact ⟨[], ⟨none, 0, rfl, Nat.le_refl _, fun k hk => by simp at hk⟩, Or.inl rfl⟩
  · simp [Value.cells] at hcs
    obtain ⟨rfl, rfl, rfl⟩ := hcs
    have hmc : m = cap := by simpa using hm
    have hspot : 0 < len → x.spot = none := fun h0 => by
      obtain ⟨cs, h1, h2⟩ := hel 0 (by omega)
      rw [Tryz.cellsOp] at h1
      obtain ⟨_, hlen, hcell⟩ := World.cells?_some h1
      obtain ⟨R, rfl, _, _⟩ := op_open h2 hlen
      have hc := hcell 0 (by omega)
      obtain ⟨b, off, sp⟩ := x
      cases sp with
      | none => rfl
      | some s =>
        rw [Go.Deep.add_add] at hc
        simp [Addr.add, World.cell?, OpR.cells] at hc
        split at hc <;> simp at hc
    have each : ∀ i, i < len → ∃ R : OpR, (∃ q o, x = ⟨q, o, none⟩ ∧ q < W.heap.size ∧ W.rangeAt q (o + i * 10) R.cells) ∧ -9223372036854775808 ≤ R.a ∧ R.a ≤ 9223372036854775807 := by
      intro i hi
      obtain ⟨cs, h1, h2⟩ := hel i (by omega)
      rw [Tryz.cellsOp] at h1
      obtain ⟨_, hlen, hcell⟩ := World.cells?_some h1
      obtain ⟨R, rfl, b1, b2⟩ := op_open h2 hlen
      refine ⟨R, ?_, b1, b2⟩
      obtain ⟨b, off, sp⟩ := x
      have h0 := hcell 0 (by omega)
      have hsp : sp = none := hspot (by omega)
      subst hsp
      refine ⟨b, off, rfl, ?_, fun j u hu => ?_⟩
      · rw [Addr.add_mid, Addr.add_mid] at h0
        exact block_lt_of_cell (h0.trans (show R.cells[0]? = some _ from rfl))
      · have hj : j < 10 := by have := (List.getElem?_eq_some_iff.1 hu).1; simpa [OpR.cells] using this
        have hj2 := hcell j hj
        rw [Addr.add_mid, Addr.add_mid] at hj2
        rw [hj2, hu]
    haveI : Inhabited OpR := ⟨OpR.none⟩
    obtain ⟨R, hR⟩ := Go.Deep.choose_lt each
    have hgl : ∀ i, i < len → ((List.range len).map R).getD i OpR.none = R i := fun i hi => by
      rw [List.getD_eq_getElem?_getD, List.getElem?_map, List.getElem?_range hi]; rfl
    refine ⟨(List.range len).map R, ⟨some x, cap, by simp, by simpa using hl, fun i hi => ?_⟩, Or.inr ⟨_, _, congrArg Prod.fst hx, by simp⟩⟩
    have hi' : i < len := by simpa using hi
    obtain ⟨⟨q, o, e1, e2, e3⟩, e4, e5⟩ := hR i hi'
    rw [hgl i hi']
    exact ⟨q, o, by rw [e1], e2, e3, e4, e5⟩

end Go.Proofs.YtnjaofkieajnlaaGreat
