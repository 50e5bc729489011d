/- The document's own Put. -/
import Derived.Test.YtnjaofkieajnlaaGreatRBox
namespace Go.Proofs.YtnjaofkieajnlaaGreat
open Go.RowKit

set_option maxRecDepth 100000 in
set_option maxHeartbeats 4000000 in
theorem rput_arg (r K M O S z : Nat) (i : Int) (t : ByteArray) (av pv : Value) (w : World) (hK : K ≤ 20) (hM : M ≤ 20) (hi : i < 0 ∨ (K : Int) + (M : Int) ≤ i) (hbox : w.heap[r]? = some (rboxB K M O S z av pv)) :
    Calls Tryz.prog 27 #[.pointer (some ⟨r, 0, none⟩), .int .i64 i, .string t] w fun e w' => e = .returned (.int .i64 2) ∧ Below w.heap.size w w' := by
  obtain ⟨c0, c1, c2, c3, c4, c5, c6, hr⟩ := rbox_cells hbox
  have hbd : ∀ n, Below w.heap.size w (w.drewN n) := fun n => ((Chg.refl (fun _ => False) w).drewN n).below (fun _ _ x => x)
  go_enter Tryz.func27, Tryz.ntmps27
  by_cases h0 : i < 0
  · have hd : decide (i < 0) = true := decide_eq_true h0
    go_wp2_with fail
    go_quiet (fail)
    all_goals
      go_wp2_with fail
      go_ret
      exact ⟨rfl, hbd _⟩
  · have hd : decide (i < 0) = false := decide_eq_false h0
    have hd2 : (K : Int) + (M : Int) ≤ i := by omega
    go_wp2_with fail
    go_quiet (fail)
    all_goals
      go_wp2_with fail
      go_ret
      exact ⟨rfl, hbd _⟩

set_option maxRecDepth 100000 in
set_option maxHeartbeats 4000000 in
theorem rput_shape (r K M O S z i : Nat) (t : ByteArray) (av pv : Value) (w : World) (hK : K ≤ 20) (hM : M ≤ 20) (hi : i < K + M) (ht : t.size ≠ z) (hbox : w.heap[r]? = some (rboxB K M O S z av pv)) :
    Calls Tryz.prog 27 #[.pointer (some ⟨r, 0, none⟩), .int .i64 (i : Int), .string t] w fun e w' => e = .returned (.int .i64 3) ∧ Below w.heap.size w w' := by
  obtain ⟨c0, c1, c2, c3, c4, c5, c6, hr⟩ := rbox_cells hbox
  have hbd : ∀ n, Below w.heap.size w (w.drewN n) := fun n => ((Chg.refl (fun _ => False) w).drewN n).below (fun _ _ x => x)
  have hd : decide ((i : Int) < 0) = false := decide_eq_false (by omega)
  have hd2 : ¬ (K : Int) + (M : Int) ≤ (i : Int) := by omega
  have hb : ((t.size : Int) != (z : Int)) = true := by simp; omega
  go_enter Tryz.func27, Tryz.ntmps27
  go_wp2_with fail
  go_quiet (fail)
  all_goals
    go_wp2_with fail
    go_ret
    exact ⟨rfl, hbd _⟩

set_option maxRecDepth 100000 in
set_option maxHeartbeats 8000000 in
theorem rput_told (r K M O S z i : Nat) (t : ByteArray) (av pv : Value) (ps : List (Nat × ByteArray)) (w : World) (hK : 1 ≤ K ∧ K ≤ 20) (hM : 1 ≤ M ∧ M ≤ 20) (hO : 1 ≤ O ∧ O ≤ M) (hS : S ≤ 65535) (hz : 0 < z ∧ z ≤ 1000)
    (hbox : RBoxAt w r K M O S z av pv ps) (hps : ps.length ≤ 900) (hin : ∀ x ∈ ps, x.1 < K + M ∧ x.2.size = z) (hi : i < K + M) (ht : t.size = z) (htd : (told (boxFacts K M O S z ps) (2 ^ i) z).2 = true) :
    Calls Tryz.prog 27 #[.pointer (some ⟨r, 0, none⟩), .int .i64 (i : Int), .string t] w fun e w' => e = .returned (.int .i64 (if (told (boxFacts K M O S z ps) (2 ^ i) z).1 = t then 0 else 4)) ∧ Below w.heap.size w w' := by
  obtain ⟨c0, c1, c2, c3, c4, c5, c6, hr⟩ := rbox_cells hbox.box
  have hbd : ∀ n, Below w.heap.size w (w.drewN n) := fun n => ((Chg.refl (fun _ => False) w).drewN n).below (fun _ _ x => x)
  have hd : decide ((i : Int) < 0) = false := decide_eq_false (by omega)
  have hd2 : ¬ (K : Int) + (M : Int) ≤ (i : Int) := by omega
  have hb : ((t.size : Int) != (z : Int)) = false := by simp; omega
  have hget := fun w hb hA hP => rget_any r K M O S z i av pv ps w hK hM hO hS hz hb hA hP hps hin (by omega)
  rw [htd] at hget
  clear htd
  generalize (told (boxFacts K M O S z ps) (2 ^ i) z).1 = s at *
  go_enter Tryz.func27, Tryz.ntmps27
  by_cases he : s = t
  · subst he
    rw [if_pos rfl]
    go_wp2_with fail
    go_quiet (fail)
    all_goals
      go_wp2_with fail
      refine (hget _ (hbox.on (Nat.le_refl _) (hbd _)).box (hbox.on (Nat.le_refl _) (hbd _)).nums (hbox.on (Nat.le_refl _) (hbd _)).texts).mono ?_
      rintro e w1 ⟨rfl, hb1⟩
      have hb2 := (hbd nq).trans (Below.mono hb1 (hbd nq).size)
      clear hget hb1 hbox c0 c1 c2 c3 c4 c5 c6
      go_wp2_with fail
      go_ret
      exact ⟨rfl, hb2⟩
  · rw [if_neg he]
    have hne := beq_bytes he
    go_wp2_with fail
    go_quiet (fail)
    all_goals
      go_wp2_with fail
      refine (hget _ (hbox.on (Nat.le_refl _) (hbd _)).box (hbox.on (Nat.le_refl _) (hbd _)).nums (hbox.on (Nat.le_refl _) (hbd _)).texts).mono ?_
      rintro e w1 ⟨rfl, hb1⟩
      have hb2 := (hbd nq).trans (Below.mono hb1 (hbd nq).size)
      clear hget hb1 hbox c0 c1 c2 c3 c4 c5 c6
      go_wp2_with fail
      go_ret
      exact ⟨rfl, hb2⟩

end Go.Proofs.YtnjaofkieajnlaaGreat

namespace Go.Proofs.YtnjaofkieajnlaaGreat
open Go.RowKit

set_option maxRecDepth 100000 in
set_option maxHeartbeats 8000000 in
theorem rput_new (r K M O S z i : Nat) (t : ByteArray) (av pv : Value) (ps : List (Nat × ByteArray)) (w : World) (hK : 1 ≤ K ∧ K ≤ 20) (hM : 1 ≤ M ∧ M ≤ 20) (hO : 1 ≤ O ∧ O ≤ M) (hS : S ≤ 65535) (hz : 0 < z ∧ z ≤ 1000)
    (hbox : RBoxAt w r K M O S z av pv ps) (hps : ps.length ≤ 900) (hin : ∀ x ∈ ps, x.1 < K + M ∧ x.2.size = z) (hi : i < K + M) (ht : t.size = z) (htd : (told (boxFacts K M O S z ps) (2 ^ i) z).2 = false) :
    Calls Tryz.prog 27 #[.pointer (some ⟨r, 0, none⟩), .int .i64 (i : Int), .string t] w fun e w' => e = .returned (.int .i64 0) ∧ ∃ av' pv', RBoxAt w' r K M O S z av' pv' (ps ++ [(i, t)]) ∧ Chg (fpR r av pv) w w' ∧ (∀ k, fpR r av' pv' k → fpR r av pv k ∨ w.heap.size ≤ k) := by
  obtain ⟨c0, c1, c2, c3, c4, c5, c6, hr⟩ := rbox_cells hbox.box
  have hbd : ∀ n, Below w.heap.size w (w.drewN n) := fun n => ((Chg.refl (fun _ => False) w).drewN n).below (fun _ _ x => x)
  have hd : decide ((i : Int) < 0) = false := decide_eq_false (by omega)
  have hd2 : ¬ (K : Int) + (M : Int) ≤ (i : Int) := by omega
  have hb : ((t.size : Int) != (z : Int)) = false := by simp; omega
  have hget := fun w hb hA hP => rget_any r K M O S z i av pv ps w hK hM hO hS hz hb hA hP hps hin (by omega)
  rw [htd] at hget
  clear htd
  generalize (told (boxFacts K M O S z ps) (2 ^ i) z).1 = s at *
  obtain ⟨i0, hii, hz0, hz1, hz2⟩ := info_parts Tryz.infoInt
  obtain ⟨j0, gi, gz0, gz1, gz2⟩ := info_parts Tryz.infoText
  go_enter Tryz.func27, Tryz.ntmps27
  go_wp2_with fail
  go_quiet (fail)
  all_goals
    go_wp2_with fail
    refine (hget _ (hbox.on (Nat.le_refl _) (hbd _)).box (hbox.on (Nat.le_refl _) (hbd _)).nums (hbox.on (Nat.le_refl _) (hbd _)).texts).mono ?_
    rintro e w1 ⟨rfl, hb1⟩
    have hb2 : Below w.heap.size w w1 := (hbd nq).trans (Below.mono hb1 (hbd nq).size)
    have hbx := hbox.on (Nat.le_refl _) hb2
    clear hget hb1 c0 c1 c2 c3 c4 c5 c6
    obtain ⟨c0, c1, c2, c3, c4, c5, c6, hr1⟩ := rbox_cells hbx.box
    have z5 := found_frozen hbx.box 5
    clear c0 c1 c2 c3 c4
    go_wp2_with (at_builtin; refine wpList_append_lies _ rfl (.tmp 51) (.tmp 53) 63 rfl 0 3 i0 (.int .i64 0) 1 8 Tryz.underlying63 hii hz0 hz1 hz2 rfl (by decide) _ _ _ rfl (hbx.oa.alloc _) ⟨w1.heap.size, 0, none⟩ 1 1 [.int .i64 (i : Int)] rfl rfl (one_news _ _ _) (one_oneCell rfl) (by decide) (by unfold maxLen; omega) (by omega) (Nat.zero_le _) (w1.heap.size + 1) (by simp) ?_)
    intro g cap w2 hown2 hgr2 hat2 hlt2
    have hgr := grownBy_of_alloc hgr2
    obtain ⟨hr2, hoa2, hop2, hcg2⟩ := rpush_at hbx hgr hown2
    have hra := owns_other hbx.oa hbx.box (by decide)
    have hr0 : w2.heap[r]? = some (rboxB K M O S z av pv) := by rw [hgr.block r hr1 (fun e => hra e.symm)]; exact hbx.box
    have hfp2 : ∀ k, (.slice (some ⟨g, 0, none⟩) (ps.length + 1) cap : Value).ownBlock = some k → fpR r av pv k ∨ w.heap.size ≤ k := fun k hk => by
      have : g = k := by simpa [Value.ownBlock] using hk
      subst this
      rcases hat2 with h | h
      · exact Or.inl (Or.inr (Or.inl h))
      · right; have := hb2.size; omega
    have hs2 : w1.heap.size ≤ w2.heap.size := hgr.size
    obtain ⟨d0, d1, d2, d3, d4, d5, d6, hr3⟩ := rbox_cells hr0
    have y5 := found_frozen hr0 5
    have y6 := found_frozen hr0 6
    clear d0 d1 d2 d3 d4 hown2 hgr2 hgr hat2 c5 c6 z5 hra hr0
    go_wp2_with (at_builtin; refine wpList_append_lies _ rfl (.tmp 61) (.tmp 63) 27 rfl 0 9 j0 (.string ByteArray.empty) 1 16 Tryz.underlying27 gi gz0 gz1 gz2 rfl (by decide) _ _ _ rfl (hop2.alloc _) ⟨w2.heap.size, 0, none⟩ 1 1 [.string t] rfl rfl (by have h := one_news (w2.setCell ⟨r, 5, none⟩ (.slice (some ⟨g, 0, none⟩) (ps.length + 1) cap)) (.string t) 9; simpa using h) (one_oneCell rfl) (by decide) (by unfold maxLen; omega) (by omega) (Nat.zero_le _) (w2.heap.size + 1) (by simp) ?_)
    intro g3 cap3 w3 hown3 hgr3 hat3 hlt3
    have hgr := grownBy_of_alloc hgr3
    obtain ⟨hr4, hoa4, hop4, hcg4⟩ := rpush_piece hr2 hoa2 hop2 hgr hown3
    have hrp := owns_other hop2 hr2 (by decide)
    have hr5 : w3.heap[r]? = some (rboxB K M O S z (.slice (some ⟨g, 0, none⟩) (ps.length + 1) cap) pv) := by rw [hgr.block r (by simp [World.setCell]; omega) (fun e => hrp e.symm)]; exact hr2
    have hfin : ∃ av' pv', RBoxAt (w3.setCell ⟨r, 6, none⟩ (.slice (some ⟨g3, 0, none⟩) (ps.length + 1) cap3)) r K M O S z av' pv' (ps ++ [(i, t)]) ∧ Chg (fpR r av pv) w (w3.setCell ⟨r, 6, none⟩ (.slice (some ⟨g3, 0, none⟩) (ps.length + 1) cap3)) ∧ (∀ k, fpR r av' pv' k → fpR r av pv k ∨ w.heap.size ≤ k) := by
      refine ⟨_, _, ⟨hr4, ?_, ?_⟩, ?_, ?_⟩
      · simpa [numsV] using hoa4
      · simpa [textV] using hop4
      · refine ((Chg.of_below hb2 (fpR r av pv)).trans hcg2 (fun _ _ h => h)).trans hcg4 (fun k _ hk => ?_)
        rcases hk with hk | hk
        · exact Or.inl hk
        · exact Or.inr (Or.inr hk)
      · intro k hk
        rcases hk with hk | hk | hk
        · exact Or.inl (Or.inl hk)
        · exact hfp2 k hk
        · have : g3 = k := by simpa [Value.ownBlock] using hk
          subst this
          rcases hat3 with h | h
          · exact Or.inl (Or.inr (Or.inr h))
          · right; have := hb2.size; omega
    obtain ⟨e0, e1, e2, e3, e4, e5, e6, hr6⟩ := rbox_cells hr5
    have x6 := found_frozen hr5 6
    clear e0 e1 e2 e3 e4 e5 hown3 hgr3 hgr hat3 d5 d6 y5 y6 hrp hr5 hr4 hoa4 hop4 hcg4 hr2 hoa2 hop2 hcg2 hfp2 hbx hbox
    go_wp2_with fail
    go_ret
    exact ⟨rfl, hfin⟩

end Go.Proofs.YtnjaofkieajnlaaGreat
