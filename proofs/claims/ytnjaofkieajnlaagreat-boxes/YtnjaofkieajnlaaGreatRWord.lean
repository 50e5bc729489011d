/- What the document's own Word does: the data, and the spare pieces behind them. -/
import Derived.Test.YtnjaofkieajnlaaGreatSpare
namespace Go.Proofs.YtnjaofkieajnlaaGreat
open Go.RowKit

theorem owns_apart {w : World} {b1 b2 : Nat} {e1 e2 : TypeId} {v1 v2 : Value} {n1 n2 : Nat} {xs1 xs2 : List Value} (h1 : w.ownsRow b1 e1 1 v1 n1 xs1) (h2 : w.ownsRow b2 e2 1 v2 n2 xs2) (hne : e1 ≠ e2) : ∀ k, v1.ownBlock = some k → v2.ownBlock ≠ some k := by
  intro k k1 k2
  obtain ⟨c1, hc1⟩ := owns_block h1 k1
  obtain ⟨c2, hc2⟩ := owns_block h2 k2
  rw [hc1] at hc2
  simp at hc2
  exact hne hc2.2

/-- Rows of numbers stand while a row of texts grows. -/
theorem RowsAt.grown {w w' : World} {base g M b n : Nat} {rv : Nat → Value} {L : Nat → List Nat} {v : Value} {xs : List Value} (h : RowsAt w base g M rv L) (hv : w.ownsRow b 9 1 v n xs) (hg : w.grownBy w' v.ownBlock) : RowsAt w' base g M rv L :=
  ⟨h.row.of_block (hg.block g h.row.lt (fun e => owns_ne hv h.row (by decide) g e.symm rfl)), h.gb,
    fun i hi => owns_of_block (h.own i hi) (fun k e => hg.block k ((h.own i hi).lt k e).2 (fun e2 => owns_apart (h.own i hi) hv (by decide) k e e2.symm)), h.apart⟩

theorem owns_prefix {w : World} {base q n cap : Nat} {e : TypeId} {xs : List Value} (h : w.ownsRow base e 1 (.slice (some ⟨q, 0, none⟩) n cap) n xs) (m : Nat) (hm : m ≤ n) : w.ownsRow base e 1 (.slice (some ⟨q, 0, none⟩) m cap) m (xs.take m) := by
  have hl := h.1
  rcases h.2 with ⟨h0, _⟩ | ⟨g, c, cur, hv, hb, hg, hc, hmx, hs, ht⟩
  · simp at h0
  · simp at hv
    obtain ⟨rfl, rfl⟩ := hv
    refine ⟨by rw [List.length_take]; omega, Or.inr ⟨_, cap, cur, rfl, hb, hg, by omega, hmx, hs, ?_⟩⟩
    rw [← ht, List.take_take]
    congr 1
    omega

theorem owns_cap {w : World} {base q n cap : Nat} {e : TypeId} {xs : List Value} (h : w.ownsRow base e 1 (.slice (some ⟨q, 0, none⟩) n cap) n xs) : n ≤ cap ∧ cap ≤ maxLen := by
  rcases h.2 with ⟨h0, _⟩ | ⟨g, c, cur, hv, hb, hg, hc, hmx, hs, ht⟩
  · simp at h0
  · simp at hv
    obtain ⟨rfl, rfl⟩ := hv
    exact ⟨hc, hmx⟩

set_option maxRecDepth 100000 in
set_option maxHeartbeats 4000000 in
theorem rword_ok (K M O S : Nat) (v : Value) (l : List ByteArray) (w : World) (hK : 1 ≤ K ∧ K ≤ 20) (hM : 1 ≤ M ∧ M ≤ 20) (hO : 1 ≤ O ∧ O ≤ M) (hS : S ≤ 65535) (hsh : Shaped l K) (ht : TextsAt w v l) :
    Calls Tryz.prog 76 #[specV K M O S, v] w fun e w' => ∃ v', e = .returned v' ∧ w'.ownsRow w.heap.size 9 1 v' (K + M) (textV (knownTo l (rowOf K M O S) (l.getD 0 ByteArray.empty).size M)) ∧ Below w.heap.size w w' := by
  have hlK := hsh.1
  have Hsh := hide hsh
  obtain ⟨ao, cap, rfl, hcap, hc⟩ := ht
  obtain ⟨q, o, rfl, hq, _⟩ := hc 0 (by omega)
  have hcells := texts_cells hc rfl
  clear hsh hc
  subst hlK
  obtain ⟨i0, hi, hz0, hz1, hz2⟩ := info_parts Tryz.infoText
  generalize hr : (l.getD 0 ByteArray.empty).size = r at *
  have hr1 : 1 ≤ r ∧ r ≤ 16 := by have := (Hsh.out.2 0 (by omega)).2; rw [hr] at this; exact this
  have Hr := hide hr
  have hc2 : ∀ k, k < l.length → (w.alloc (specB l.length M O S)).cell? ⟨q, o + k, none⟩ = some (.string (l.getD k ByteArray.empty)) := fun k hk => by
    rw [World.cell?_alloc_lt _ _ _ (by exact hq)]; exact hcells k hk
  have HN := hide (texts_news hc2)
  clear hc2 hr hcells
  have hnil := World.ownsRow_nil (w.alloc (specB l.length M O S)) w.heap.size 9 1
  go_enter Tryz.func76, Tryz.ntmps76
  go_wp2_with (at_builtin; refine wpList_append_lies _ rfl (.tmp 10) (.tmp 11) 27 rfl w.heap.size 9 i0 (.string ByteArray.empty) 1 16 Tryz.underlying27 hi hz0 hz1 hz2 rfl (by decide) _ _ _ rfl hnil ⟨q, o, none⟩ l.length cap (textV l) rfl (by rw [textV_length]; omega) HN.out (textV_one l) (by omega) (by unfold maxLen; omega) (by omega) (by simp) (w.heap.size + 1) (by simp) ?_)
  intro g9 cap9 w1 hown9 hgr9 hat9 hlt9
  have hb1 : Below (w.alloc (specB l.length M O S)).heap.size (w.alloc (specB l.length M O S)) w1 := (Below.refl _ _).grown hgr9 (Nat.le_refl _) (fun k e => by simp [Value.ownBlock] at e)
  have hs1 := block_on (heap_alloc_new w (specB l.length M O S)) hb1
  have hbw : Below w.heap.size w w1 := ((Below.refl _ _).alloc (Nat.le_refl _) _).trans (hb1.mono (by simp))
  obtain ⟨c0, c1, c2, c3⟩ := spec_cellsI hs1
  clear hb1 hgr9 hat9
  go_wp2_with fail
  refine (rrows_ok l.length M O S _ hK hM hO hS).mono ?_
  rintro e w2 ⟨g, rv, rfl, hrw, hg, hb2⟩
  have hown2 := owns_below hown9 hb2
  have hbw2 := hbw.trans (hb2.mono hbw.size)
  have h0 : w2.ownsRow w.heap.size 9 1 (.slice (some ⟨g9, 0, none⟩) l.length cap9) (l.length + 0) (textV (knownTo l (rowOf l.length M O S) r 0)) := hown2
  clear c0 c1 c2 c3 hs1 hb2 hown9 hbw hown2
  go_wp2_with fail
  go_loopw [5, 16] (fun v5 t wr => ∃ i : Nat, i ≤ M ∧ t = .int .i64 i ∧ wr.ownsRow w.heap.size 9 1 v5 (l.length + i) (textV (knownTo l (rowOf l.length M O S) r i)) ∧ RowsAt wr (g + 1) g M rv (rowOf l.length M O S) ∧ Below w.heap.size w wr) (fun _ t _ => M - (intOf t).toNat)
  case atStart => exact ⟨0, Nat.zero_le _, rfl, h0, hrw, hbw2⟩
  case round =>
    clear h0 hrw hbw2
    obtain ⟨i, hiM, rfl, hown, hrw, hbw⟩ := hrel
    by_cases hlt : i < M
    · have hrc := hrw.cell hlt
      have hrl := rowOf_len l.length M O S i
      have hkl := knownTo_length l (rowOf l.length M O S) r i
      have hro := hrw.own i hlt
      rw [rowOf_head] at hro
      have hhl : (rowHead l.length M O S i ++ [l.length + i]).length = (rowHead l.length M O S i).length + 1 := by simp
      rw [rowOf_head, hhl] at hrl
      obtain ⟨q3, cap3, hrv, _, _⟩ := hro.form (by rw [hhl]; omega)
      rw [hhl] at hrv hro
      rw [hrv] at hro hrc
      have hpre := owns_prefix hro (rowHead l.length M O S i).length (by omega)
      rw [numsV_append, List.take_left' (numsV_length _)] at hpre
      have hcp := owns_cap hro
      unfold maxLen at hcp
      clear hro hrv hhl
      go_wp2_with fail
      refine (total_any _ _ (knownTo l (rowOf l.length M O S) r i) (rowHead l.length M O S i) r _ _ (by omega) (by omega) (by omega) (by omega) (knownTo_size (fun x hx => ?hx) i) (fun j hj => by have := rowHead_lt l.length M O S i j hj; omega) hpre (owns_texts hown hkl.symm)).mono ?_
      case hx => rw [← Hr.out]; exact Hsh.out.sizes x hx
      rintro e w4 ⟨rfl, hb4⟩
      have hown4 := owns_below hown hb4
      have hrw4 := hrw.below hb4
      have hbw4 := hbw.trans (hb4.mono hbw.size)
      have hks : knownTo l (rowOf l.length M O S) r (i + 1) = knownTo l (rowOf l.length M O S) r i ++ [sumB (knownTo l (rowOf l.length M O S) r i) (rowHead l.length M O S i) r] := by
        rw [← sumB_head hkl]; rfl
      have Hks := hide hks
      generalize hkn : knownTo l (rowOf l.length M O S) r i = kn at *
      generalize htt : sumB kn (rowHead l.length M O S i) r = tt at *
      have hw4 := hbw4.size
      clear hb4 hrw hrc hks hkn htt hown hbw hpre
      go_wp2_with (first | (at_builtin; refine wpList_append_lies _ rfl (.tmp 28) (.tmp 30) 27 rfl w.heap.size 9 i0 (.string ByteArray.empty) 1 16 Tryz.underlying27 hi hz0 hz1 hz2 rfl (by decide) _ _ _ rfl (hown4.alloc _) ⟨w4.heap.size, 0, none⟩ 1 1 [.string tt] rfl rfl (one_news _ _ _) (one_oneCell rfl) (by decide) (by unfold maxLen; omega) (by omega) (by simp; omega) (w4.heap.size + 1) (by simp) ?_))
      intro g5 cap5 w5 hown5 hgr5 hat5 hlt5
      have hrw5 := hrw4.grown hown4 (grownBy_of_alloc hgr5)
      have hb5 : Below w.heap.size w w5 := (((Chg.of_below hbw4 (fun _ => False)).alloc _).grown hgr5 (fun k e => Or.inl (hown4.lt k e).1)).below (fun _ _ f => f)
      clear hrw4 hown4 hbw4 hgr5 hat5
      go_wp2
      go_roundw
      case rel => exact ⟨i + 1, by omega, by go_num, by rw [Hks.out, textV_append]; exact hown5, hrw5, hb5⟩
      case measure => simp [intOf]; omega
    · have hiM2 : i = M := by omega
      subst hiM2
      go_wp2
      go_ret
      exact ⟨_, rfl, hown, hbw⟩

end Go.Proofs.YtnjaofkieajnlaaGreat
