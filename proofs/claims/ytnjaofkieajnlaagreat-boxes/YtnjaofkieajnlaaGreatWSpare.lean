/- What the program's Spare does: the spare pieces of the word in new memory, or an error. -/
import Derived.Test.YtnjaofkieajnlaaGreatStill
import Derived.Test.YtnjaofkieajnlaaGreatKnown
import Derived.Test.YtnjaofkieajnlaaGreatRowed
namespace Go.Proofs.YtnjaofkieajnlaaGreat
open Go.RowKit

/-- Texts as values. -/
def textV (l : List ByteArray) : List Value := l.map Value.string

theorem textV_append (a b : List ByteArray) : textV (a ++ b) = textV a ++ textV b := by simp [textV]
theorem textV_length (l : List ByteArray) : (textV l).length = l.length := by simp [textV]

theorem textV_get (l : List ByteArray) (k : Nat) (h : k < l.length) : (textV l)[k]? = some (.string (l.getD k ByteArray.empty)) := by
  simp [textV, h]

theorem textV_one (l : List ByteArray) : ∀ u ∈ textV l, u.oneCell' = true := fun u hu => by
  obtain ⟨x, _, rfl⟩ := List.mem_map.1 hu
  rfl

/-- A slice of texts that is owned reads as texts. -/
theorem owns_texts {w : World} {base n : Nat} {v : Value} {l : List ByteArray} (h : w.ownsRow base 9 1 v n (textV l)) (hn : n = l.length) : TextsAt w v l := by
  subst hn
  rcases h.2 with ⟨rfl, hn⟩ | ⟨g, cap, cur, rfl, _, hg, hc, _, _, ht⟩
  · have : l = [] := List.eq_nil_of_length_eq_zero hn
    subst this
    exact ⟨none, 0, rfl, Nat.le_refl _, fun k hk => by simp at hk⟩
  · refine ⟨_, cap, rfl, hc, fun k hk => ⟨g, 0, rfl, (Array.getElem?_eq_some_iff.1 hg).1, ?_⟩⟩
    rw [cell_of_row _ _ _ _ _ _ hg, Nat.zero_add]
    have h1 := textV_get l k hk
    rw [← ht, List.getElem?_take] at h1
    rw [if_pos (by omega)] at h1
    simpa using h1

theorem run_make_texts (n : Nat) (hn : n ≤ 1000000) (w : World) : (Instr.makeSlice 27 (.int .i64 0) (.int .i64 (n : Int))).run Tryz.prog w = .ok (.slice (some ⟨w.heap.size, 0, none⟩) 0 n) (w.alloc (.cells (madeCells #[.string ByteArray.empty] n) 9)) := by
  obtain ⟨i, hi, hzz⟩ := Option.map_eq_some_iff.1 Tryz.infoText
  simp only [Prod.mk.injEq] at hzz
  obtain ⟨hz, hs, hb⟩ := hzz
  have h := run_make (P := Tryz.prog) w 27 9 i (.string ByteArray.empty) Tryz.underlying27 hi hz .i64 .i64 0 (n : Int) (by omega) (by omega) (by rw [hb]; omega) (by omega)
  simp only [Int.toNat_natCast, hs, Nat.mul_one] at h
  exact h

/-- The cells of a list of texts, as the law of append asks them. -/
theorem texts_news {w : World} {q o : Nat} {l : List ByteArray} (hc : ∀ k, k < l.length → w.cell? ⟨q, o + k, none⟩ = some (.string (l.getD k ByteArray.empty))) : ∀ j u, (textV l)[j]? = some u → w.cell? ((⟨q, o, none⟩ : Addr).add j) = some u := fun j u hu => by
  have hj : j < l.length := by have := (List.getElem?_eq_some_iff.1 hu).1; rwa [textV_length] at this
  rw [Addr.add_mid, hc j hj]
  rw [textV_get l j hj] at hu
  exact hu

/-- Where word.Spare stands behind i rows. -/
structure SpAt (W wr : World) (K : Nat) (kn : List ByteArray) (i : Nat) (v9 v10 : Value) : Prop where
  known : wr.ownsRow W.heap.size 9 1 v9 (K + i) (textV kn)
  spare : wr.ownsRow W.heap.size 9 1 v10 i (textV (kn.drop K))
  apart : ∀ k, v9.ownBlock = some k → v10.ownBlock ≠ some k
  below : Below W.heap.size W wr

theorem owns_below {w w1 : World} {base : Nat} {e : TypeId} {size : Nat} {v : Value} {n : Nat} {xs : List Value} (h : w.ownsRow base e size v n xs) (hb : Below w.heap.size w w1) : w1.ownsRow base e size v n xs :=
  owns_of_block h (fun k hk => hb.block k (h.lt k hk).2)

theorem SpAt.on {W wr w1 : World} {K i : Nat} {kn : List ByteArray} {v9 v10 : Value} (h : SpAt W wr K kn i v9 v10) (hb : Below wr.heap.size wr w1) : SpAt W w1 K kn i v9 v10 :=
  ⟨owns_below h.known hb, owns_below h.spare hb, h.apart, h.below.trans (hb.mono h.below.size)⟩

/-- Behind the first append the spare pieces are owned as they were. -/
theorem SpAt.mid {W wr w1 : World} {K i : Nat} {kn : List ByteArray} {v9 v10 : Value} {o : Obj} (h : SpAt W wr K kn i v9 v10) (hg : (wr.alloc o).grownBy w1 v9.ownBlock) : w1.ownsRow W.heap.size 9 1 v10 i (textV (kn.drop K)) :=
  owns_of_block h.spare (fun k hk => (grownBy_of_alloc hg).block k (h.spare.lt k hk).2 (fun e => h.apart k e.symm hk))

theorem SpAt.step {W wr w1 w2 : World} {K i g1 g2 c1 c2 n1 n2 : Nat} {kn : List ByteArray} {t : ByteArray} {v9 v10 : Value} {o1 o2 : Obj} {xs1 xs2 : List Value} (h : SpAt W wr K kn i v9 v10) (hkn : kn.length = K + i)
    (hg1 : (wr.alloc o1).grownBy w1 v9.ownBlock) (hw1 : w1.ownsRow W.heap.size 9 1 (.slice (some ⟨g1, 0, none⟩) n1 c1) n1 xs1) (hx1 : xs1 = textV kn ++ [.string t]) (hn1 : n1 = K + i + 1) (ha1 : v9.ownBlock = some g1 ∨ g1 = wr.heap.size + 1)
    (hg2 : (w1.alloc o2).grownBy w2 v10.ownBlock) (hw2 : w2.ownsRow W.heap.size 9 1 (.slice (some ⟨g2, 0, none⟩) n2 c2) n2 xs2) (hx2 : xs2 = textV (kn.drop K) ++ [.string t]) (hn2 : n2 = i + 1) (ha2 : v10.ownBlock = some g2 ∨ g2 = w1.heap.size + 1) :
    SpAt W w2 K (kn ++ [t]) (i + 1) (.slice (some ⟨g1, 0, none⟩) n1 c1) (.slice (some ⟨g2, 0, none⟩) n2 c2) := by
  subst hx1 hn1 hx2 hn2
  have hlt1 := hw1.lt g1 rfl
  have hsz1 := (grownBy_of_alloc hg1).size
  have hne : ∀ k, v10.ownBlock = some k → k ≠ g1 := fun k hk e => by
    subst e
    rcases ha1 with ha1 | ha1
    · exact h.apart k ha1 hk
    · have := (h.spare.lt k hk).2; omega
  have hws := h.below.size
  refine ⟨?_, ?_, ?_, ?_⟩
  · have h2 := owns_of_block (w' := w2) hw1 (fun k hk => (grownBy_of_alloc hg2).block k (hw1.lt k hk).2 (fun e => by
      simp [Value.ownBlock] at hk
      exact hne k e.symm hk.symm))
    rw [textV_append]; exact h2
  · rw [List.drop_append_of_le_length (by omega), textV_append]; exact hw2
  · intro k e1 e2
    simp [Value.ownBlock] at e1 e2
    rcases ha2 with ha2 | ha2
    · exact hne g2 ha2 (by omega)
    · omega
  · exact ((((Chg.of_below h.below (fun _ => False)).alloc _).grown hg1 (fun k e => Or.inl (h.known.lt k e).1)).alloc _ |>.grown hg2 (fun k e => Or.inl (h.spare.lt k e).1)).below (fun _ _ f => f)

theorem Shaped.sizes {l : List ByteArray} {n : Nat} (h : Shaped l n) : ∀ x ∈ l, x.size = (l.getD 0 ByteArray.empty).size := fun x hx => by
  obtain ⟨k, hk, rfl⟩ := List.mem_iff_getElem.1 hx
  have := (h.2 k hk).1
  rwa [List.getD_eq_getElem?_getD, List.getElem?_eq_getElem hk] at this

set_option maxRecDepth 100000 in
set_option maxHeartbeats 4000000 in
theorem wspare_ok (K M O S : Nat) (v : Value) (l : List ByteArray) (w : World) (hK : 1 ≤ K ∧ K ≤ 20) (hM : 1 ≤ M ∧ M ≤ 20) (hO : 1 ≤ O ∧ O ≤ M) (hS : S ≤ 65535) (hsh : Shaped l K) (ht : TextsAt w v l) :
    Calls Tryz.prog 104 #[specV K M O S, v] w fun e w' => ∃ v', e = .returned (.tuple #[v', .int .i64 0]) ∧ w'.ownsRow w.heap.size 9 1 v' M (textV (sparesOf K M O S l (l.getD 0 ByteArray.empty).size)) ∧ Below w.heap.size w w' := by
  have hlK := hsh.1
  have HT := hide ht
  have Hsh := hide hsh
  obtain ⟨ao, cap, rfl, hcap, hc⟩ := ht
  obtain ⟨q, o, rfl, hq, _⟩ := hc 0 (by omega)
  have hcells := texts_cells hc rfl
  have HC := hide hcells
  clear hsh hc hcells
  subst hlK
  have hmk1 : ∀ w, (Instr.makeSlice 27 (.int .i64 0) (.int .i64 ((l.length : Int) + (M : Int)))).run Tryz.prog w = .ok (.slice (some ⟨w.heap.size, 0, none⟩) 0 (l.length + M)) (w.alloc (.cells (madeCells #[.string ByteArray.empty] (l.length + M)) 9)) := fun w => by
    have h := run_make_texts (l.length + M) (by omega) w
    rw [show ((l.length + M : Nat) : Int) = (l.length : Int) + (M : Int) from by omega] at h
    exact h
  have hmk2 := run_make_texts M (by omega)
  obtain ⟨i0, hi, hz0, hz1, hz2⟩ := info_parts Tryz.infoText
  go_enter Tryz.func104, Tryz.ntmps104
  go_wp2_with fail
  refine (wrows_ok l.length M O S _ hK hM hO hS).mono ?_
  rintro e w1 ⟨g, rv, rfl, hr, hg, hb⟩
  have hs1 := block_on (heap_alloc_new w _) hb
  have hb1 : Below w.heap.size w w1 := ((Below.refl _ _).alloc (Nat.le_refl _) _).trans (hb.mono (by simp))
  simp only [World.size_alloc] at hg
  obtain ⟨c0, c1, c2, c3⟩ := spec_cellsI hs1
  clear hb
  go_wp2_with fail
  refine (sizeOf_any _ l l.length _ (by omega) (by omega) (HT.out.on hb1)).mono ?_
  rintro e w2 ⟨⟨r, rfl, hyes, _⟩, rfl⟩
  obtain ⟨hre, hr1, hr16⟩ := hyes Hsh.out
  have Hre := hide hre
  clear hyes hre
  have hc2 : ∀ k, k < l.length → (w2.alloc (.cells (madeCells #[.string ByteArray.empty] (l.length + M)) 9)).cell? ⟨q, o + k, none⟩ = some (.string (l.getD k ByteArray.empty)) := fun k hk => by
    rw [World.cell?_alloc_lt _ _ _ (by have := hb1.size; show q < _; omega), hb1.cell (p := ⟨q, o + k, none⟩) hq]; exact HC.out k hk
  have HN := hide (texts_news hc2)
  clear hc2
  have hr0 : ((r : Int) == 0) = false := by simp; omega
  have hm1 := World.ownsRow_made (base := w2.heap.size) (e := 9) (size := 1) w2 (madeCells #[.string ByteArray.empty] (l.length + M)) (l.length + M) (Nat.le_refl _) (by unfold maxLen; omega) (by simp [size_madeCells])
  go_wp2_with (at_builtin; refine wpList_append_lies _ rfl (.tmp 34) (.tmp 35) 27 rfl w2.heap.size 9 i0 (.string ByteArray.empty) 1 16 Tryz.underlying27 hi hz0 hz1 hz2 rfl (by decide) _ _ _ rfl hm1 ⟨q, o, none⟩ l.length cap (textV l) rfl (by rw [textV_length]; omega) HN.out (textV_one l) (by omega) (by unfold maxLen; omega) (by omega) (by simp) (w2.heap.size + 1) (by simp) ?_)
  intro g9 cap9 w3 hown9 hgr9 hat9 hlt9
  have hb3 : Below w2.heap.size w2 w3 := ((Below.refl _ _).alloc (Nat.le_refl _) _).grown hgr9 (by simp) (fun k e => by simp [Value.ownBlock] at e; omega)
  have hs3 := block_on hs1 hb3
  have hr3 := hr.below hb3
  have hsz3 := hb3.size
  clear c0 c1 c2 c3 hm1 hgr9 hat9 hs1
  obtain ⟨c0, c1, c2, c3⟩ := spec_cellsI hs3
  have hst : SpAt w2 (w3.alloc (.cells (madeCells #[.string ByteArray.empty] M) 9)) l.length (knownTo l (rowOf l.length M O S) r 0) 0 (.slice (some ⟨g9, 0, none⟩) l.length cap9) (.slice (some ⟨w3.heap.size, 0, none⟩) 0 M) := by
    refine ⟨hown9.alloc _, ?_, fun k e => ?_, hb3.alloc hsz3 _⟩
    · simp only [knownTo, List.drop_length]
      exact World.ownsRow_made w3 _ M hsz3 (by unfold maxLen; omega) (by simp [size_madeCells])
    · simp [Value.ownBlock] at e ⊢
      omega
  clear hown9
  go_wp2_with fail
  clear c0 c1 c2 c3 hs3 hmk1 hmk2
  go_loopw [9, 10, 42] (fun v9 v10 t wr => ∃ i : Nat, i ≤ M ∧ t = .int .i64 i ∧ SpAt w2 wr l.length (knownTo l (rowOf l.length M O S) r i) i v9 v10) (fun _ _ t _ => M - (intOf t).toNat)
  case atStart => exact ⟨0, Nat.zero_le _, rfl, hst⟩
  case round =>
    clear hst
    obtain ⟨i, hiM, rfl, hst⟩ := hrel
    by_cases hlt : i < M
    · have hrr := hr.below hst.below
      have hrc := hrr.cell hlt
      have hrl := rowOf_len l.length M O S i
      have hkl := knownTo_length l (rowOf l.length M O S) r i
      go_wp2_with fail
      refine (sum_any _ (rv i) (knownTo l (rowOf l.length M O S) r i) (rowOf l.length M O S i) r _ _ (by omega) (fun j hj => by have := rowOf_lt l.length M O S i j hj; omega) (by omega) (knownTo_size (fun x hx => ?hx) i) (hrr.own i hlt) (owns_texts hst.known hkl.symm)).mono ?_
      case hx => rw [Hre.out]; exact Hsh.out.sizes x hx
      rintro e w4 ⟨rfl, hb4⟩
      have hst4 := hst.on hb4
      have hks : knownTo l (rowOf l.length M O S) r (i + 1) = knownTo l (rowOf l.length M O S) r i ++ [sumB (knownTo l (rowOf l.length M O S) r i) (rowOf l.length M O S i) r] := rfl
      have Hks := hide hks
      generalize hkn : knownTo l (rowOf l.length M O S) r i = kn at *
      generalize htt : sumB kn (rowOf l.length M O S i) r = tt at *
      have hw4 := hst4.below.size
      have hkw := hst4.known
      clear hst hb4 hrr hrc hks hkn htt
      go_wp2_with (first | (at_builtin; refine wpList_append_lies _ rfl (.tmp 50) (.tmp 52) 27 rfl w2.heap.size 9 i0 (.string ByteArray.empty) 1 16 Tryz.underlying27 hi hz0 hz1 hz2 rfl (by decide) _ _ _ rfl (hkw.alloc _) ⟨w4.heap.size, 0, none⟩ 1 1 [.string tt] rfl rfl (one_news _ _ _) (one_oneCell rfl) (by decide) (by unfold maxLen; omega) (by omega) (by simp; omega) (w4.heap.size + 1) (by simp) ?_))
      intro g5 cap5 w5 hown5 hgr5 hat5 hlt5
      have hsp5 := hst4.mid hgr5
      have hw5 : w2.heap.size ≤ w5.heap.size := by have := (grownBy_of_alloc hgr5).size; omega
      go_wp2_with (first | (at_builtin; refine wpList_append_lies _ rfl (.tmp 54) (.tmp 56) 27 rfl w2.heap.size 9 i0 (.string ByteArray.empty) 1 16 Tryz.underlying27 hi hz0 hz1 hz2 rfl (by decide) _ _ _ rfl (hsp5.alloc _) ⟨w5.heap.size, 0, none⟩ 1 1 [.string tt] rfl rfl (one_news _ _ _) (one_oneCell rfl) (by decide) (by unfold maxLen; omega) (by omega) (by simp; omega) (w5.heap.size + 1) (by simp) ?_))
      intro g6 cap6 w6 hown6 hgr6 hat6 hlt6
      have hnext := hst4.step hkl hgr5 hown5 rfl rfl hat5 hgr6 hown6 rfl rfl hat6
      clear hst4 hkw hown5 hgr5 hat5 hsp5 hown6 hgr6 hat6
      go_wp2
      go_roundw
      case rel => exact ⟨i + 1, by omega, by go_num, by rw [Hks.out]; exact hnext⟩
      case measure => simp [intOf]; omega
    · have hiM2 : i = M := by omega
      subst hiM2
      have hres : wr.ownsRow w.heap.size 9 1 u10 i (textV (sparesOf l.length i O S l (l.getD 0 ByteArray.empty).size)) := by
        have h1 := hst.spare
        rw [Hre.out] at h1
        exact owns_base h1 (fun k e => by have := (h1.lt k e).1; have := hb1.size; omega)
      have hbf := hb1.trans (hst.below.mono hb1.size)
      clear hst
      go_wp2
      go_ret2
      exact ⟨_, rfl, hres, hbf⟩

end Go.Proofs.YtnjaofkieajnlaaGreat
