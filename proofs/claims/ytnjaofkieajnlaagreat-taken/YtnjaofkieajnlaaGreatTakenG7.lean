/- Texts of the proof, part 8. -/
import Derived.Test.YtnjaofkieajnlaaGreatTakenG0
import Derived.Test.YtnjaofkieajnlaaGreatTakenG6

/- Rowed: for every specification the program's Rows answers as the document asks. -/
namespace Go.Proofs.YtnjaofkieajnlaaGreat
open Go.RowKit

theorem may_nats {K M O S : Int} (h : mayB K M O S = true) : ∃ k m o s : Nat, K = k ∧ M = m ∧ O = o ∧ S = s ∧ (1 ≤ k ∧ k ≤ 20) ∧ (1 ≤ m ∧ m ≤ 20) ∧ (1 ≤ o ∧ o ≤ m) ∧ s ≤ 65535 := by
  have hh := mayB_true h
  exact ⟨K.toNat, M.toNat, O.toNat, S.toNat, by omega, by omega, by omega, by omega, by omega, by omega, by omega, by omega⟩

theorem block_on {w w1 : World} {h : Nat} {o : Obj} (hs : w.heap[h]? = some o) (hb : Below w.heap.size w w1) : w1.heap[h]? = some o := by
  rw [hb.block h (Array.getElem?_eq_some_iff.1 hs).1]; exact hs

theorem may_below (K M O S : Int) (w : World) :
    Calls Tryz.prog 24 #[specV K M O S] w fun e w' => e = .returned (.bool (mayB K M O S)) ∧ Below w.heap.size w w' := by
  refine (may_any K M O S w).mono ?_
  rintro e w' ⟨rfl, rfl⟩
  exact ⟨rfl, (Below.refl _ _).alloc (Nat.le_refl _) _⟩

/-- The cells of a specification of whatever numbers. -/
theorem spec_cellsI {w : World} {h : Nat} {K M O S : Int} (hs : w.heap[h]? = some (.cells #[.int .i64 K, .int .i64 M, .int .i64 O, .int .i64 S] 25 (0, 0))) :
    w.cell? ⟨h, 0, none⟩ = some (.int .i64 K) ∧ w.cell? ⟨h, 1, none⟩ = some (.int .i64 M) ∧ w.cell? ⟨h, 2, none⟩ = some (.int .i64 O) ∧ w.cell? ⟨h, 3, none⟩ = some (.int .i64 S) := by
  refine ⟨?_, ?_, ?_, ?_⟩ <;> (rw [cell_of_row _ _ _ _ _ _ hs]; rfl)

set_option maxRecDepth 100000 in
set_option maxHeartbeats 1000000 in
theorem lawRows_ok (K M O S : Nat) (w : World) (hK : 1 ≤ K ∧ K ≤ 20) (hM : 1 ≤ M ∧ M ≤ 20) (hO : 1 ≤ O ∧ O ≤ M) (hS : S ≤ 65535) :
    Calls Tryz.prog 44 #[specV K M O S] w fun e w' => ∃ g rv, e = .returned (.tuple #[.slice (some ⟨g, 0, none⟩) M M, .bool true]) ∧ RowsAt w' (g + 1) g M rv (rowOf K M O S) ∧ w.heap.size ≤ g ∧ Below w.heap.size w w' := by
  have hmay : mayB K M O S = true := by simp [mayB]; omega
  go_enter Tryz.func44, Tryz.ntmps44
  go_wp2_with fail
  refine (rows_ok K M O S _ hK hM hO hS).mono ?_
  rintro e w1 ⟨g, rv, rfl, hr, hg, hb⟩
  have hs1 := block_on (heap_alloc_new w _) hb
  have hb1 : Below w.heap.size w w1 := ((Below.refl _ _).alloc (Nat.le_refl _) _).trans (hb.mono (by simp))
  simp only [World.size_alloc] at hg
  obtain ⟨c0, c1, c2, c3⟩ := spec_cellsI hs1
  clear hb
  go_wp2_with fail
  refine (may_below _ _ _ _ _).mono ?_
  rintro e w2 ⟨rfl, hb⟩
  rw [hmay]
  have hs2 := block_on hs1 hb
  have hb2 := hb1.trans (hb.mono hb1.size)
  have hr2 := hr.below hb
  clear c0 c1 c2 c3 hs1 hb1 hr hb
  obtain ⟨c0, c1, c2, c3⟩ := spec_cellsI hs2
  go_wp2_with fail
  refine (rrows_ok K M O S _ hK hM hO hS).mono ?_
  rintro e w3 ⟨g3, rv3, rfl, hr3, hg3, hb⟩
  have hb3 := hb2.trans (hb.mono hb2.size)
  have hr2' := hr2.below hb
  clear c0 c1 c2 c3 hs2 hb2 hr2 hb
  go_wp2_with fail
  refine (sameRows_yes g g3 (g + 1) (g3 + 1) M rv rv3 _ _ (by omega) (fun i _ => by have := rowOf_len K M O S i; omega) hr2' hr3).mono ?_
  rintro e w4 ⟨rfl, hcg⟩
  have hr4 := hr2'.chg hcg (fun x => x) (fun _ _ _ x => x)
  have hb4 := ((Chg.of_below hb3 (fun _ => False)).trans hcg (fun _ _ x => x)).below (fun _ _ x => x)
  clear hcg hr2' hr3 hb3
  go_wp2
  go_ret2
  exact ⟨g, rv, rfl, hr4, by omega, hb4⟩

set_option maxRecDepth 100000 in
set_option maxHeartbeats 1000000 in
theorem lawRows_bad (K M O S : Int) (w : World) (hmay : mayB K M O S = false) :
    Calls Tryz.prog 44 #[specV K M O S] w fun e w' => e = .returned (.tuple #[.slice none 0 0, .bool true]) ∧ Below w.heap.size w w' := by
  go_enter Tryz.func44, Tryz.ntmps44
  go_wp2_with fail
  refine (rows_bad K M O S _ hmay).mono ?_
  rintro e w1 ⟨rfl, hb⟩
  have hs1 := block_on (heap_alloc_new w _) hb
  have hb1 : Below w.heap.size w w1 := ((Below.refl _ _).alloc (Nat.le_refl _) _).trans (hb.mono (by simp))
  obtain ⟨c0, c1, c2, c3⟩ := spec_cellsI hs1
  clear hb
  go_wp2_with fail
  refine (may_below _ _ _ _ _).mono ?_
  rintro e w2 ⟨rfl, hb⟩
  rw [hmay]
  have hb2 := hb1.trans (hb.mono hb1.size)
  clear c0 c1 c2 c3 hs1 hb1 hb
  go_wp2
  go_ret2
  exact ⟨rfl, hb2⟩

end Go.Proofs.YtnjaofkieajnlaaGreat

/- What the program's Spare does: the spare pieces of the word in new memory, or an error. -/
namespace Go.Proofs.YtnjaofkieajnlaaGreat
open Go.RowKit

/-- Texts as values. -/
def textV (l : List ByteArray) : List Value := l.map Value.string

theorem textV_append (a b : List ByteArray) : textV (a ++ b) = textV a ++ textV b := by simp [textV]
theorem textV_length (l : List ByteArray) : (textV l).length = l.length := by simp [textV]

theorem textV_get (l : List ByteArray) (k : Nat) (h : k < l.length) : (textV l)[k]? = some (.string (l.getD k ByteArray.empty)) := by
  simp [textV, h]

theorem textV_one (l : List ByteArray) : ∀ u ∈ textV l, u.oneCell' = true := fun u hu => by
  obtain ⟨x, _, rfl⟩ := List.mem_map.1 hu
  rfl

/-- A slice of texts that is owned reads as texts. -/
theorem owns_texts {w : World} {base n : Nat} {v : Value} {l : List ByteArray} (h : w.ownsRow base 9 1 v n (textV l)) (hn : n = l.length) : TextsAt w v l := by
  subst hn
  rcases h.2 with ⟨rfl, hn⟩ | ⟨g, cap, cur, rfl, _, hg, hc, _, _, ht⟩
  · have : l = [] := List.eq_nil_of_length_eq_zero hn
    subst this
    exact ⟨none, 0, rfl, Nat.le_refl _, fun k hk => by simp at hk⟩
  · refine ⟨_, cap, rfl, hc, fun k hk => ⟨g, 0, rfl, (Array.getElem?_eq_some_iff.1 hg).1, ?_⟩⟩
    rw [cell_of_row _ _ _ _ _ _ hg, Nat.zero_add]
    have h1 := textV_get l k hk
    rw [← ht, List.getElem?_take] at h1
    rw [if_pos (by omega)] at h1
    simpa using h1

theorem run_make_texts (n : Nat) (hn : n ≤ 1000000) (w : World) : (Instr.makeSlice 27 (.int .i64 0) (.int .i64 (n : Int))).run Tryz.prog w = .ok (.slice (some ⟨w.heap.size, 0, none⟩) 0 n) (w.alloc (.cells (madeCells #[.string ByteArray.empty] n) 9)) := by
  obtain ⟨i, hi, hzz⟩ := Option.map_eq_some_iff.1 Tryz.infoText
  simp only [Prod.mk.injEq] at hzz
  obtain ⟨hz, hs, hb⟩ := hzz
  have h := run_make (P := Tryz.prog) w 27 9 i (.string ByteArray.empty) Tryz.underlying27 hi hz .i64 .i64 0 (n : Int) (by omega) (by omega) (by rw [hb]; omega) (by omega)
  simp only [Int.toNat_natCast, hs, Nat.mul_one] at h
  exact h

/-- The cells of a list of texts, as the law of append asks them. -/
theorem texts_news {w : World} {q o : Nat} {l : List ByteArray} (hc : ∀ k, k < l.length → w.cell? ⟨q, o + k, none⟩ = some (.string (l.getD k ByteArray.empty))) : ∀ j u, (textV l)[j]? = some u → w.cell? ((⟨q, o, none⟩ : Addr).add j) = some u := fun j u hu => by
  have hj : j < l.length := by have := (List.getElem?_eq_some_iff.1 hu).1; rwa [textV_length] at this
  rw [Addr.add_mid, hc j hj]
  rw [textV_get l j hj] at hu
  exact hu

/-- Where word.Spare stands behind i rows. -/
structure SpAt (W wr : World) (K : Nat) (kn : List ByteArray) (i : Nat) (v9 v10 : Value) : Prop where
  known : wr.ownsRow W.heap.size 9 1 v9 (K + i) (textV kn)
  spare : wr.ownsRow W.heap.size 9 1 v10 i (textV (kn.drop K))
  apart : ∀ k, v9.ownBlock = some k → v10.ownBlock ≠ some k
  below : Below W.heap.size W wr

theorem owns_below {w w1 : World} {base : Nat} {e : TypeId} {size : Nat} {v : Value} {n : Nat} {xs : List Value} (h : w.ownsRow base e size v n xs) (hb : Below w.heap.size w w1) : w1.ownsRow base e size v n xs :=
  owns_of_block h (fun k hk => hb.block k (h.lt k hk).2)

theorem SpAt.on {W wr w1 : World} {K i : Nat} {kn : List ByteArray} {v9 v10 : Value} (h : SpAt W wr K kn i v9 v10) (hb : Below wr.heap.size wr w1) : SpAt W w1 K kn i v9 v10 :=
  ⟨owns_below h.known hb, owns_below h.spare hb, h.apart, h.below.trans (hb.mono h.below.size)⟩

/-- Behind the first append the spare pieces are owned as they were. -/
theorem SpAt.mid {W wr w1 : World} {K i : Nat} {kn : List ByteArray} {v9 v10 : Value} {o : Obj} (h : SpAt W wr K kn i v9 v10) (hg : (wr.alloc o).grownBy w1 v9.ownBlock) : w1.ownsRow W.heap.size 9 1 v10 i (textV (kn.drop K)) :=
  owns_of_block h.spare (fun k hk => (grownBy_of_alloc hg).block k (h.spare.lt k hk).2 (fun e => h.apart k e.symm hk))

theorem SpAt.step {W wr w1 w2 : World} {K i g1 g2 c1 c2 n1 n2 : Nat} {kn : List ByteArray} {t : ByteArray} {v9 v10 : Value} {o1 o2 : Obj} {xs1 xs2 : List Value} (h : SpAt W wr K kn i v9 v10) (hkn : kn.length = K + i)
    (hg1 : (wr.alloc o1).grownBy w1 v9.ownBlock) (hw1 : w1.ownsRow W.heap.size 9 1 (.slice (some ⟨g1, 0, none⟩) n1 c1) n1 xs1) (hx1 : xs1 = textV kn ++ [.string t]) (hn1 : n1 = K + i + 1) (ha1 : v9.ownBlock = some g1 ∨ g1 = wr.heap.size + 1)
    (hg2 : (w1.alloc o2).grownBy w2 v10.ownBlock) (hw2 : w2.ownsRow W.heap.size 9 1 (.slice (some ⟨g2, 0, none⟩) n2 c2) n2 xs2) (hx2 : xs2 = textV (kn.drop K) ++ [.string t]) (hn2 : n2 = i + 1) (ha2 : v10.ownBlock = some g2 ∨ g2 = w1.heap.size + 1) :
    SpAt W w2 K (kn ++ [t]) (i + 1) (.slice (some ⟨g1, 0, none⟩) n1 c1) (.slice (some ⟨g2, 0, none⟩) n2 c2) := by
  subst hx1 hn1 hx2 hn2
  have hlt1 := hw1.lt g1 rfl
  have hsz1 := (grownBy_of_alloc hg1).size
  have hne : ∀ k, v10.ownBlock = some k → k ≠ g1 := fun k hk e => by
    subst e
    rcases ha1 with ha1 | ha1
    · exact h.apart k ha1 hk
    · have := (h.spare.lt k hk).2; omega
  have hws := h.below.size
  refine ⟨?_, ?_, ?_, ?_⟩
  · have h2 := owns_of_block (w' := w2) hw1 (fun k hk => (grownBy_of_alloc hg2).block k (hw1.lt k hk).2 (fun e => by
      simp [Value.ownBlock] at hk
      exact hne k e.symm hk.symm))
    rw [textV_append]; exact h2
  · rw [List.drop_append_of_le_length (by omega), textV_append]; exact hw2
  · intro k e1 e2
    simp [Value.ownBlock] at e1 e2
    rcases ha2 with ha2 | ha2
    · exact hne g2 ha2 (by omega)
    · omega
  · exact ((((Chg.of_below h.below (fun _ => False)).alloc _).grown hg1 (fun k e => Or.inl (h.known.lt k e).1)).alloc _ |>.grown hg2 (fun k e => Or.inl (h.spare.lt k e).1)).below (fun _ _ f => f)

theorem Shaped.sizes {l : List ByteArray} {n : Nat} (h : Shaped l n) : ∀ x ∈ l, x.size = (l.getD 0 ByteArray.empty).size := fun x hx => by
  obtain ⟨k, hk, rfl⟩ := List.mem_iff_getElem.1 hx
  have := (h.2 k hk).1
  rwa [List.getD_eq_getElem?_getD, List.getElem?_eq_getElem hk] at this

set_option maxRecDepth 100000 in
set_option maxHeartbeats 4000000 in
theorem wspare_ok (K M O S : Nat) (v : Value) (l : List ByteArray) (w : World) (hK : 1 ≤ K ∧ K ≤ 20) (hM : 1 ≤ M ∧ M ≤ 20) (hO : 1 ≤ O ∧ O ≤ M) (hS : S ≤ 65535) (hsh : Shaped l K) (ht : TextsAt w v l) :
    Calls Tryz.prog 104 #[specV K M O S, v] w fun e w' => ∃ v', e = .returned (.tuple #[v', .int .i64 0]) ∧ w'.ownsRow w.heap.size 9 1 v' M (textV (sparesOf K M O S l (l.getD 0 ByteArray.empty).size)) ∧ Below w.heap.size w w' := by
  have hlK := hsh.1
  have HT := hide ht
  have Hsh := hide hsh
  obtain ⟨ao, cap, rfl, hcap, hc⟩ := ht
  obtain ⟨q, o, rfl, hq, _⟩ := hc 0 (by omega)
  have hcells := texts_cells hc rfl
  have HC := hide hcells
  clear hsh hc hcells
  subst hlK
  have hmk1 : ∀ w, (Instr.makeSlice 27 (.int .i64 0) (.int .i64 ((l.length : Int) + (M : Int)))).run Tryz.prog w = .ok (.slice (some ⟨w.heap.size, 0, none⟩) 0 (l.length + M)) (w.alloc (.cells (madeCells #[.string ByteArray.empty] (l.length + M)) 9)) := fun w => by
    have h := run_make_texts (l.length + M) (by omega) w
    rw [show ((l.length + M : Nat) : Int) = (l.length : Int) + (M : Int) from by omega] at h
    exact h
  have hmk2 := run_make_texts M (by omega)
  obtain ⟨i0, hi, hz0, hz1, hz2⟩ := info_parts Tryz.infoText
  go_enter Tryz.func104, Tryz.ntmps104
  go_wp2_with fail
  refine (wrows_ok l.length M O S _ hK hM hO hS).mono ?_
  rintro e w1 ⟨g, rv, rfl, hr, hg, hb⟩
  have hs1 := block_on (heap_alloc_new w _) hb
  have hb1 : Below w.heap.size w w1 := ((Below.refl _ _).alloc (Nat.le_refl _) _).trans (hb.mono (by simp))
  simp only [World.size_alloc] at hg
  obtain ⟨c0, c1, c2, c3⟩ := spec_cellsI hs1
  clear hb
  go_wp2_with fail
  refine (sizeOf_any _ l l.length _ (by omega) (by omega) (HT.out.on hb1)).mono ?_
  rintro e w2 ⟨⟨r, rfl, hyes, _⟩, rfl⟩
  obtain ⟨hre, hr1, hr16⟩ := hyes Hsh.out
  have Hre := hide hre
  clear hyes hre
  have hc2 : ∀ k, k < l.length → (w2.alloc (.cells (madeCells #[.string ByteArray.empty] (l.length + M)) 9)).cell? ⟨q, o + k, none⟩ = some (.string (l.getD k ByteArray.empty)) := fun k hk => by
    rw [World.cell?_alloc_lt _ _ _ (by have := hb1.size; show q < _; omega), hb1.cell (p := ⟨q, o + k, none⟩) hq]; exact HC.out k hk
  have HN := hide (texts_news hc2)
  clear hc2
  have hr0 : ((r : Int) == 0) = false := by simp; omega
  have hm1 := World.ownsRow_made (base := w2.heap.size) (e := 9) (size := 1) w2 (madeCells #[.string ByteArray.empty] (l.length + M)) (l.length + M) (Nat.le_refl _) (by unfold maxLen; omega) (by simp [size_madeCells])
  go_wp2_with (at_builtin; refine wpList_append_lies _ rfl (.tmp 34) (.tmp 35) 27 rfl w2.heap.size 9 i0 (.string ByteArray.empty) 1 16 Tryz.underlying27 hi hz0 hz1 hz2 rfl (by decide) _ _ _ rfl hm1 ⟨q, o, none⟩ l.length cap (textV l) rfl (by rw [textV_length]; omega) HN.out (textV_one l) (by omega) (by unfold maxLen; omega) (by omega) (by simp) (w2.heap.size + 1) (by simp) ?_)
  intro g9 cap9 w3 hown9 hgr9 hat9 hlt9
  have hb3 : Below w2.heap.size w2 w3 := ((Below.refl _ _).alloc (Nat.le_refl _) _).grown hgr9 (by simp) (fun k e => by simp [Value.ownBlock] at e; omega)
  have hs3 := block_on hs1 hb3
  have hr3 := hr.below hb3
  have hsz3 := hb3.size
  clear c0 c1 c2 c3 hm1 hgr9 hat9 hs1
  obtain ⟨c0, c1, c2, c3⟩ := spec_cellsI hs3
  have hst : SpAt w2 (w3.alloc (.cells (madeCells #[.string ByteArray.empty] M) 9)) l.length (knownTo l (rowOf l.length M O S) r 0) 0 (.slice (some ⟨g9, 0, none⟩) l.length cap9) (.slice (some ⟨w3.heap.size, 0, none⟩) 0 M) := by
    refine ⟨hown9.alloc _, ?_, fun k e => ?_, hb3.alloc hsz3 _⟩
    · simp only [knownTo, List.drop_length]
      exact World.ownsRow_made w3 _ M hsz3 (by unfold maxLen; omega) (by simp [size_madeCells])
    · simp [Value.ownBlock] at e ⊢
      omega
  clear hown9
  go_wp2_with fail
  clear c0 c1 c2 c3 hs3 hmk1 hmk2
  go_loopw [9, 10, 42] (fun v9 v10 t wr => ∃ i : Nat, i ≤ M ∧ t = .int .i64 i ∧ SpAt w2 wr l.length (knownTo l (rowOf l.length M O S) r i) i v9 v10) (fun _ _ t _ => M - (intOf t).toNat)
  case atStart => exact ⟨0, Nat.zero_le _, rfl, hst⟩
  case round =>
    clear hst
    obtain ⟨i, hiM, rfl, hst⟩ := hrel
    by_cases hlt : i < M
    · have hrr := hr.below hst.below
      have hrc := hrr.cell hlt
      have hrl := rowOf_len l.length M O S i
      have hkl := knownTo_length l (rowOf l.length M O S) r i
      go_wp2_with fail
      refine (sum_any _ (rv i) (knownTo l (rowOf l.length M O S) r i) (rowOf l.length M O S i) r _ _ (by omega) (fun j hj => by have := rowOf_lt l.length M O S i j hj; omega) (by omega) (knownTo_size (fun x hx => ?hx) i) (hrr.own i hlt) (owns_texts hst.known hkl.symm)).mono ?_
      case hx => rw [Hre.out]; exact Hsh.out.sizes x hx
      rintro e w4 ⟨rfl, hb4⟩
      have hst4 := hst.on hb4
      have hks : knownTo l (rowOf l.length M O S) r (i + 1) = knownTo l (rowOf l.length M O S) r i ++ [sumB (knownTo l (rowOf l.length M O S) r i) (rowOf l.length M O S i) r] := rfl
      have Hks := hide hks
      generalize hkn : knownTo l (rowOf l.length M O S) r i = kn at *
      generalize htt : sumB kn (rowOf l.length M O S i) r = tt at *
      have hw4 := hst4.below.size
      have hkw := hst4.known
      clear hst hb4 hrr hrc hks hkn htt
      go_wp2_with (first | (at_builtin; refine wpList_append_lies _ rfl (.tmp 50) (.tmp 52) 27 rfl w2.heap.size 9 i0 (.string ByteArray.empty) 1 16 Tryz.underlying27 hi hz0 hz1 hz2 rfl (by decide) _ _ _ rfl (hkw.alloc _) ⟨w4.heap.size, 0, none⟩ 1 1 [.string tt] rfl rfl (one_news _ _ _) (one_oneCell rfl) (by decide) (by unfold maxLen; omega) (by omega) (by simp; omega) (w4.heap.size + 1) (by simp) ?_))
      intro g5 cap5 w5 hown5 hgr5 hat5 hlt5
      have hsp5 := hst4.mid hgr5
      have hw5 : w2.heap.size ≤ w5.heap.size := by have := (grownBy_of_alloc hgr5).size; omega
      go_wp2_with (first | (at_builtin; refine wpList_append_lies _ rfl (.tmp 54) (.tmp 56) 27 rfl w2.heap.size 9 i0 (.string ByteArray.empty) 1 16 Tryz.underlying27 hi hz0 hz1 hz2 rfl (by decide) _ _ _ rfl (hsp5.alloc _) ⟨w5.heap.size, 0, none⟩ 1 1 [.string tt] rfl rfl (one_news _ _ _) (one_oneCell rfl) (by decide) (by unfold maxLen; omega) (by omega) (by simp; omega) (w5.heap.size + 1) (by simp) ?_))
      intro g6 cap6 w6 hown6 hgr6 hat6 hlt6
      have hnext := hst4.step hkl hgr5 hown5 rfl rfl hat5 hgr6 hown6 rfl rfl hat6
      clear hst4 hkw hown5 hgr5 hat5 hsp5 hown6 hgr6 hat6
      go_wp2
      go_roundw
      case rel => exact ⟨i + 1, by omega, by go_num, by rw [Hks.out]; exact hnext⟩
      case measure => simp [intOf]; omega
    · have hiM2 : i = M := by omega
      subst hiM2
      have hres : wr.ownsRow w.heap.size 9 1 u10 i (textV (sparesOf l.length i O S l (l.getD 0 ByteArray.empty).size)) := by
        have h1 := hst.spare
        rw [Hre.out] at h1
        exact owns_base h1 (fun k e => by have := (h1.lt k e).1; have := hb1.size; omega)
      have hbf := hb1.trans (hst.below.mono hb1.size)
      clear hst
      go_wp2
      go_ret2
      exact ⟨_, rfl, hres, hbf⟩

end Go.Proofs.YtnjaofkieajnlaaGreat

/- The program's Spare whole: an error, or the spare pieces. -/
namespace Go.Proofs.YtnjaofkieajnlaaGreat
open Go.RowKit

set_option maxRecDepth 100000 in
set_option maxHeartbeats 1000000 in
theorem wspare_bad (K M O S : Int) (v : Value) (w : World) (hmay : mayB K M O S = false) :
    Calls Tryz.prog 104 #[specV K M O S, v] w fun e w' => e = .returned (.tuple #[.slice none 0 0, .int .i64 1]) ∧ Below w.heap.size w w' := by
  go_enter Tryz.func104, Tryz.ntmps104
  go_wp2_with fail
  refine (wrows_bad K M O S _ hmay).mono ?_
  rintro e w1 ⟨rfl, hb⟩
  have hb1 : Below w.heap.size w w1 := ((Below.refl _ _).alloc (Nat.le_refl _) _).trans (hb.mono (by simp))
  clear hb
  go_wp2
  go_ret2
  exact ⟨rfl, hb1⟩

set_option maxRecDepth 100000 in
set_option maxHeartbeats 1000000 in
theorem wspare_shape (K M O S : Nat) (v : Value) (l : List ByteArray) (w : World) (hK : 1 ≤ K ∧ K ≤ 20) (hM : 1 ≤ M ∧ M ≤ 20) (hO : 1 ≤ O ∧ O ≤ M) (hS : S ≤ 65535) (hl : l.length ≤ 8796093022208) (hsh : ¬ Shaped l K) (ht : TextsAt w v l) :
    Calls Tryz.prog 104 #[specV K M O S, v] w fun e w' => e = .returned (.tuple #[.slice none 0 0, .int .i64 3]) ∧ Below w.heap.size w w' := by
  have HT := hide ht
  have Hsh := hide hsh
  clear ht hsh
  go_enter Tryz.func104, Tryz.ntmps104
  go_wp2_with fail
  refine (wrows_ok K M O S _ hK hM hO hS).mono ?_
  rintro e w1 ⟨g, rv, rfl, hr, hg, hb⟩
  have hs1 := block_on (heap_alloc_new w _) hb
  have hb1 : Below w.heap.size w w1 := ((Below.refl _ _).alloc (Nat.le_refl _) _).trans (hb.mono (by simp))
  obtain ⟨c0, c1, c2, c3⟩ := spec_cellsI hs1
  clear hb hr hg
  go_wp2_with fail
  refine (sizeOf_any _ l K _ (by omega) (by omega) (HT.out.on hb1)).mono ?_
  rintro e w2 ⟨⟨r, rfl, _, hno⟩, rfl⟩
  obtain rfl := hno Hsh.out
  go_wp2
  go_ret2
  exact ⟨rfl, hb1⟩


set_option maxRecDepth 100000 in
set_option maxHeartbeats 1000000 in
theorem spare_bad (K M O S : Int) (v : Value) (w : World) (hmay : mayB K M O S = false) :
    Calls Tryz.prog 73 #[specV K M O S, v] w fun e w' => e = .returned (.tuple #[.slice none 0 0, .int .i64 1]) ∧ Below w.heap.size w w' := by
  go_enter Tryz.func73, Tryz.ntmps73
  go_wp2_with fail
  refine (wspare_bad K M O S v _ hmay).mono ?_
  rintro e w1 ⟨rfl, hb⟩
  have hb1 : Below w.heap.size w w1 := ((Below.refl _ _).alloc (Nat.le_refl _) _).trans (hb.mono (by simp))
  clear hb
  go_wp2
  go_ret2
  exact ⟨rfl, hb1⟩

set_option maxRecDepth 100000 in
set_option maxHeartbeats 1000000 in
theorem spare_shape (K M O S : Nat) (v : Value) (l : List ByteArray) (w : World) (hK : 1 ≤ K ∧ K ≤ 20) (hM : 1 ≤ M ∧ M ≤ 20) (hO : 1 ≤ O ∧ O ≤ M) (hS : S ≤ 65535) (hl : l.length ≤ 8796093022208) (hsh : ¬ Shaped l K) (ht : TextsAt w v l) :
    Calls Tryz.prog 73 #[specV K M O S, v] w fun e w' => e = .returned (.tuple #[.slice none 0 0, .int .i64 3]) ∧ Below w.heap.size w w' := by
  have HT := hide ht
  have Hsh := hide hsh
  clear ht hsh
  go_enter Tryz.func73, Tryz.ntmps73
  go_wp2_with fail
  refine (wspare_shape K M O S v l _ hK hM hO hS hl Hsh.out (HT.out.on ((Below.refl _ _).alloc (Nat.le_refl _) _))).mono ?_
  rintro e w1 ⟨rfl, hb⟩
  have hb1 : Below w.heap.size w w1 := ((Below.refl _ _).alloc (Nat.le_refl _) _).trans (hb.mono (by simp))
  clear hb
  go_wp2
  go_ret2
  exact ⟨rfl, hb1⟩

set_option maxRecDepth 100000 in
set_option maxHeartbeats 1000000 in
theorem spare_ok (K M O S : Nat) (v : Value) (l : List ByteArray) (w : World) (hK : 1 ≤ K ∧ K ≤ 20) (hM : 1 ≤ M ∧ M ≤ 20) (hO : 1 ≤ O ∧ O ≤ M) (hS : S ≤ 65535) (hsh : Shaped l K) (ht : TextsAt w v l) :
    Calls Tryz.prog 73 #[specV K M O S, v] w fun e w' => ∃ v', e = .returned (.tuple #[v', .int .i64 0]) ∧ w'.ownsRow w.heap.size 9 1 v' M (textV (sparesOf K M O S l (l.getD 0 ByteArray.empty).size)) ∧ Below w.heap.size w w' := by
  have HT := hide ht
  have Hsh := hide hsh
  clear ht hsh
  go_enter Tryz.func73, Tryz.ntmps73
  go_wp2_with fail
  refine (wspare_ok K M O S v l _ hK hM hO hS Hsh.out (HT.out.on ((Below.refl _ _).alloc (Nat.le_refl _) _))).mono ?_
  rintro e w1 ⟨v', rfl, hown, hb⟩
  have hown1 := owns_base (base' := w.heap.size) hown (fun k e => by have := (hown.lt k e).1; simp at this; omega)
  clear hown
  have hb1 : Below w.heap.size w w1 := ((Below.refl _ _).alloc (Nat.le_refl _) _).trans (hb.mono (by simp))
  clear hb
  go_wp2
  go_ret2
  exact ⟨v', rfl, hown1, hb1⟩

end Go.Proofs.YtnjaofkieajnlaaGreat

/- What the document's own Word does: the data, and the spare pieces behind them. -/
namespace Go.Proofs.YtnjaofkieajnlaaGreat
open Go.RowKit

theorem owns_apart {w : World} {b1 b2 : Nat} {e1 e2 : TypeId} {v1 v2 : Value} {n1 n2 : Nat} {xs1 xs2 : List Value} (h1 : w.ownsRow b1 e1 1 v1 n1 xs1) (h2 : w.ownsRow b2 e2 1 v2 n2 xs2) (hne : e1 ≠ e2) : ∀ k, v1.ownBlock = some k → v2.ownBlock ≠ some k := by
  intro k k1 k2
  obtain ⟨c1, hc1⟩ := owns_block h1 k1
  obtain ⟨c2, hc2⟩ := owns_block h2 k2
  rw [hc1] at hc2
  simp at hc2
  exact hne hc2.2

/-- Rows of numbers stand while a row of texts grows. -/
theorem RowsAt.grown {w w' : World} {base g M b n : Nat} {rv : Nat → Value} {L : Nat → List Nat} {v : Value} {xs : List Value} (h : RowsAt w base g M rv L) (hv : w.ownsRow b 9 1 v n xs) (hg : w.grownBy w' v.ownBlock) : RowsAt w' base g M rv L :=
  ⟨h.row.of_block (hg.block g h.row.lt (fun e => owns_ne hv h.row (by decide) g e.symm rfl)), h.gb,
    fun i hi => owns_of_block (h.own i hi) (fun k e => hg.block k ((h.own i hi).lt k e).2 (fun e2 => owns_apart (h.own i hi) hv (by decide) k e e2.symm)), h.apart⟩

theorem owns_prefix {w : World} {base q n cap : Nat} {e : TypeId} {xs : List Value} (h : w.ownsRow base e 1 (.slice (some ⟨q, 0, none⟩) n cap) n xs) (m : Nat) (hm : m ≤ n) : w.ownsRow base e 1 (.slice (some ⟨q, 0, none⟩) m cap) m (xs.take m) := by
  have hl := h.1
  rcases h.2 with ⟨h0, _⟩ | ⟨g, c, cur, hv, hb, hg, hc, hmx, hs, ht⟩
  · simp at h0
  · simp at hv
    obtain ⟨rfl, rfl⟩ := hv
    refine ⟨by rw [List.length_take]; omega, Or.inr ⟨_, cap, cur, rfl, hb, hg, by omega, hmx, hs, ?_⟩⟩
    rw [← ht, List.take_take]
    congr 1
    omega

theorem owns_cap {w : World} {base q n cap : Nat} {e : TypeId} {xs : List Value} (h : w.ownsRow base e 1 (.slice (some ⟨q, 0, none⟩) n cap) n xs) : n ≤ cap ∧ cap ≤ maxLen := by
  rcases h.2 with ⟨h0, _⟩ | ⟨g, c, cur, hv, hb, hg, hc, hmx, hs, ht⟩
  · simp at h0
  · simp at hv
    obtain ⟨rfl, rfl⟩ := hv
    exact ⟨hc, hmx⟩

set_option maxRecDepth 100000 in
set_option maxHeartbeats 4000000 in
theorem rword_ok (K M O S : Nat) (v : Value) (l : List ByteArray) (w : World) (hK : 1 ≤ K ∧ K ≤ 20) (hM : 1 ≤ M ∧ M ≤ 20) (hO : 1 ≤ O ∧ O ≤ M) (hS : S ≤ 65535) (hsh : Shaped l K) (ht : TextsAt w v l) :
    Calls Tryz.prog 76 #[specV K M O S, v] w fun e w' => ∃ v', e = .returned v' ∧ w'.ownsRow w.heap.size 9 1 v' (K + M) (textV (knownTo l (rowOf K M O S) (l.getD 0 ByteArray.empty).size M)) ∧ Below w.heap.size w w' := by
  have hlK := hsh.1
  have Hsh := hide hsh
  obtain ⟨ao, cap, rfl, hcap, hc⟩ := ht
  obtain ⟨q, o, rfl, hq, _⟩ := hc 0 (by omega)
  have hcells := texts_cells hc rfl
  clear hsh hc
  subst hlK
  obtain ⟨i0, hi, hz0, hz1, hz2⟩ := info_parts Tryz.infoText
  generalize hr : (l.getD 0 ByteArray.empty).size = r at *
  have hr1 : 1 ≤ r ∧ r ≤ 16 := by have := (Hsh.out.2 0 (by omega)).2; rw [hr] at this; exact this
  have Hr := hide hr
  have hc2 : ∀ k, k < l.length → (w.alloc (specB l.length M O S)).cell? ⟨q, o + k, none⟩ = some (.string (l.getD k ByteArray.empty)) := fun k hk => by
    rw [World.cell?_alloc_lt _ _ _ (by exact hq)]; exact hcells k hk
  have HN := hide (texts_news hc2)
  clear hc2 hr hcells
  have hnil := World.ownsRow_nil (w.alloc (specB l.length M O S)) w.heap.size 9 1
  go_enter Tryz.func76, Tryz.ntmps76
  go_wp2_with (at_builtin; refine wpList_append_lies _ rfl (.tmp 10) (.tmp 11) 27 rfl w.heap.size 9 i0 (.string ByteArray.empty) 1 16 Tryz.underlying27 hi hz0 hz1 hz2 rfl (by decide) _ _ _ rfl hnil ⟨q, o, none⟩ l.length cap (textV l) rfl (by rw [textV_length]; omega) HN.out (textV_one l) (by omega) (by unfold maxLen; omega) (by omega) (by simp) (w.heap.size + 1) (by simp) ?_)
  intro g9 cap9 w1 hown9 hgr9 hat9 hlt9
  have hb1 : Below (w.alloc (specB l.length M O S)).heap.size (w.alloc (specB l.length M O S)) w1 := (Below.refl _ _).grown hgr9 (Nat.le_refl _) (fun k e => by simp [Value.ownBlock] at e)
  have hs1 := block_on (heap_alloc_new w (specB l.length M O S)) hb1
  have hbw : Below w.heap.size w w1 := ((Below.refl _ _).alloc (Nat.le_refl _) _).trans (hb1.mono (by simp))
  obtain ⟨c0, c1, c2, c3⟩ := spec_cellsI hs1
  clear hb1 hgr9 hat9
  go_wp2_with fail
  refine (rrows_ok l.length M O S _ hK hM hO hS).mono ?_
  rintro e w2 ⟨g, rv, rfl, hrw, hg, hb2⟩
  have hown2 := owns_below hown9 hb2
  have hbw2 := hbw.trans (hb2.mono hbw.size)
  have h0 : w2.ownsRow w.heap.size 9 1 (.slice (some ⟨g9, 0, none⟩) l.length cap9) (l.length + 0) (textV (knownTo l (rowOf l.length M O S) r 0)) := hown2
  clear c0 c1 c2 c3 hs1 hb2 hown9 hbw hown2
  go_wp2_with fail
  go_loopw [5, 16] (fun v5 t wr => ∃ i : Nat, i ≤ M ∧ t = .int .i64 i ∧ wr.ownsRow w.heap.size 9 1 v5 (l.length + i) (textV (knownTo l (rowOf l.length M O S) r i)) ∧ RowsAt wr (g + 1) g M rv (rowOf l.length M O S) ∧ Below w.heap.size w wr) (fun _ t _ => M - (intOf t).toNat)
  case atStart => exact ⟨0, Nat.zero_le _, rfl, h0, hrw, hbw2⟩
  case round =>
    clear h0 hrw hbw2
    obtain ⟨i, hiM, rfl, hown, hrw, hbw⟩ := hrel
    by_cases hlt : i < M
    · have hrc := hrw.cell hlt
      have hrl := rowOf_len l.length M O S i
      have hkl := knownTo_length l (rowOf l.length M O S) r i
      have hro := hrw.own i hlt
      rw [rowOf_head] at hro
      have hhl : (rowHead l.length M O S i ++ [l.length + i]).length = (rowHead l.length M O S i).length + 1 := by simp
      rw [rowOf_head, hhl] at hrl
      obtain ⟨q3, cap3, hrv, _, _⟩ := hro.form (by rw [hhl]; omega)
      rw [hhl] at hrv hro
      rw [hrv] at hro hrc
      have hpre := owns_prefix hro (rowHead l.length M O S i).length (by omega)
      rw [numsV_append, List.take_left' (numsV_length _)] at hpre
      have hcp := owns_cap hro
      unfold maxLen at hcp
      clear hro hrv hhl
      go_wp2_with fail
      refine (total_any _ _ (knownTo l (rowOf l.length M O S) r i) (rowHead l.length M O S i) r _ _ (by omega) (by omega) (by omega) (by omega) (knownTo_size (fun x hx => ?hx) i) (fun j hj => by have := rowHead_lt l.length M O S i j hj; omega) hpre (owns_texts hown hkl.symm)).mono ?_
      case hx => rw [← Hr.out]; exact Hsh.out.sizes x hx
      rintro e w4 ⟨rfl, hb4⟩
      have hown4 := owns_below hown hb4
      have hrw4 := hrw.below hb4
      have hbw4 := hbw.trans (hb4.mono hbw.size)
      have hks : knownTo l (rowOf l.length M O S) r (i + 1) = knownTo l (rowOf l.length M O S) r i ++ [sumB (knownTo l (rowOf l.length M O S) r i) (rowHead l.length M O S i) r] := by
        rw [← sumB_head hkl]; rfl
      have Hks := hide hks
      generalize hkn : knownTo l (rowOf l.length M O S) r i = kn at *
      generalize htt : sumB kn (rowHead l.length M O S i) r = tt at *
      have hw4 := hbw4.size
      clear hb4 hrw hrc hks hkn htt hown hbw hpre
      go_wp2_with (first | (at_builtin; refine wpList_append_lies _ rfl (.tmp 28) (.tmp 30) 27 rfl w.heap.size 9 i0 (.string ByteArray.empty) 1 16 Tryz.underlying27 hi hz0 hz1 hz2 rfl (by decide) _ _ _ rfl (hown4.alloc _) ⟨w4.heap.size, 0, none⟩ 1 1 [.string tt] rfl rfl (one_news _ _ _) (one_oneCell rfl) (by decide) (by unfold maxLen; omega) (by omega) (by simp; omega) (w4.heap.size + 1) (by simp) ?_))
      intro g5 cap5 w5 hown5 hgr5 hat5 hlt5
      have hrw5 := hrw4.grown hown4 (grownBy_of_alloc hgr5)
      have hb5 : Below w.heap.size w w5 := (((Chg.of_below hbw4 (fun _ => False)).alloc _).grown hgr5 (fun k e => Or.inl (hown4.lt k e).1)).below (fun _ _ f => f)
      clear hrw4 hown4 hbw4 hgr5 hat5
      go_wp2
      go_roundw
      case rel => exact ⟨i + 1, by omega, by go_num, by rw [Hks.out, textV_append]; exact hown5, hrw5, hb5⟩
      case measure => simp [intOf]; omega
    · have hiM2 : i = M := by omega
      subst hiM2
      go_wp2
      go_ret
      exact ⟨_, rfl, hown, hbw⟩

end Go.Proofs.YtnjaofkieajnlaaGreat

/- Spared: for every specification and every list of texts the program's Spare answers as the document asks, and leaves what is handed in alone. -/
namespace Go.Proofs.YtnjaofkieajnlaaGreat
open Go.RowKit

theorem owns_suffix {w : World} {base g n cap K : Nat} {kn : List ByteArray} (h : w.ownsRow base 9 1 (.slice (some ⟨g, 0, none⟩) n cap) n (textV kn)) (hn : n = kn.length) (hK : K ≤ n) :
    TextsAt w (.slice (some ⟨g, K, none⟩) (n - K) (cap - K)) (kn.drop K) := by
  obtain ⟨ao, c, hv, hc, hcell⟩ := owns_texts h hn
  simp at hv
  obtain ⟨rfl, rfl, rfl⟩ := hv
  refine ⟨_, _, by rw [List.length_drop], by rw [List.length_drop]; omega, fun k hk => ?_⟩
  rw [List.length_drop] at hk
  obtain ⟨q, o, he, hq, hcl⟩ := hcell (K + k) (by omega)
  simp at he
  obtain ⟨rfl, rfl⟩ := he
  refine ⟨g, K, rfl, hq, ?_⟩
  rw [Nat.zero_add] at hcl
  rw [hcl]
  simp [List.getD_eq_getElem?_getD, List.getElem?_drop]

theorem TextsAt.chg {w w1 : World} {v : Value} {l : List ByteArray} (h : TextsAt w v l) (hb : Chg (fun _ => False) w w1) : TextsAt w1 v l := h.on (hb.below (fun _ _ x => x))

theorem HandedAt.on {w w1 : World} {g : Nat} {l : List ByteArray} (h : HandedAt w g l) (hb : Below w.heap.size w w1) : HandedAt w1 g l := h.of_block (hb.block g h.lt)

theorem Below.chg {w w1 w2 : World} {B : Nat} (h : Below B w w1) (hB : B ≤ w1.heap.size) (hc : Chg (fun _ => False) w1 w2) : Below B w w2 := h.trans ((hc.below (fun _ _ x => x)).mono hB)

set_option maxRecDepth 100000 in
set_option maxHeartbeats 2000000 in
theorem lawSpare_bad (K M O S : Int) (v : Value) (l : List ByteArray) (w : World) (hl : l.length ≤ 8796093022208) (hmay : mayB K M O S = false) (ht : TextsAt w v l) :
    Calls Tryz.prog 46 #[specV K M O S, v] w fun e w' => e = .returned (.tuple #[.slice none 0 0, .bool true]) ∧ Below w.heap.size w w' := by
  have HT := hide ht
  clear ht
  go_enter Tryz.func46, Tryz.ntmps46
  go_wp2_with fail
  refine (handed_any v l _ hl (HT.out.on ((Below.refl _ _).alloc (Nat.le_refl _) _))).mono ?_
  rintro e w1 ⟨g, rfl, hh, hg, hb⟩
  have hs1 := block_on (heap_alloc_new w _) hb
  have hb1 : Below w.heap.size w w1 := ((Below.refl _ _).alloc (Nat.le_refl _) _).trans (hb.mono (by simp))
  obtain ⟨c0, c1, c2, c3⟩ := spec_cellsI hs1
  clear hb hg
  go_wp2_with fail
  refine (spare_bad K M O S _ _ hmay).mono ?_
  rintro e w2 ⟨rfl, hb⟩
  have hs2 := block_on hs1 hb
  have hh2 := hh.on hb
  have hb2 := hb1.trans (hb.mono hb1.size)
  clear c0 c1 c2 c3 hs1 hb1 hb hh
  go_wp2_with fail
  refine (still_yes v l g _ hl hh2 (HT.out.on hb2)).mono ?_
  rintro e w3 ⟨rfl, hcg⟩
  have hb := hcg.below (fun _ _ x => x)
  have hs3 := block_on hs2 hb
  have hb3 := hb2.trans (hb.mono hb2.size)
  obtain ⟨c0, c1, c2, c3⟩ := spec_cellsI hs3
  clear hcg hb hs2 hb2 hh2
  go_wp2_with fail
  refine (may_below _ _ _ _ _).mono ?_
  rintro e w4 ⟨rfl, hb⟩
  rw [hmay]
  have hb4 := hb3.trans (hb.mono hb3.size)
  clear c0 c1 c2 c3 hb hb3 hs3
  go_wp2
  go_ret2
  exact ⟨rfl, hb4⟩

set_option maxRecDepth 100000 in
set_option maxHeartbeats 2000000 in
theorem lawSpare_shape (K M O S : Nat) (v : Value) (l : List ByteArray) (w : World) (hK : 1 ≤ K ∧ K ≤ 20) (hM : 1 ≤ M ∧ M ≤ 20) (hO : 1 ≤ O ∧ O ≤ M) (hS : S ≤ 65535) (hl : l.length ≤ 8796093022208) (hsh : ¬ Shaped l K) (ht : TextsAt w v l) :
    Calls Tryz.prog 46 #[specV K M O S, v] w fun e w' => e = .returned (.tuple #[.slice none 0 0, .bool true]) ∧ Below w.heap.size w w' := by
  have hmay : mayB K M O S = true := by simp [mayB]; omega
  have HT := hide ht
  have Hsh := hide hsh
  clear ht hsh
  go_enter Tryz.func46, Tryz.ntmps46
  go_wp2_with fail
  refine (handed_any v l _ hl (HT.out.on ((Below.refl _ _).alloc (Nat.le_refl _) _))).mono ?_
  rintro e w1 ⟨g, rfl, hh, hg, hb⟩
  have hs1 := block_on (heap_alloc_new w _) hb
  have hb1 : Below w.heap.size w w1 := ((Below.refl _ _).alloc (Nat.le_refl _) _).trans (hb.mono (by simp))
  obtain ⟨c0, c1, c2, c3⟩ := spec_cellsI hs1
  clear hb hg
  go_wp2_with fail
  refine (spare_shape K M O S _ l _ hK hM hO hS hl Hsh.out hh.texts).mono ?_
  rintro e w2 ⟨rfl, hb⟩
  have hs2 := block_on hs1 hb
  have hh2 := hh.on hb
  have hb2 := hb1.trans (hb.mono hb1.size)
  clear c0 c1 c2 c3 hs1 hb1 hb hh
  go_wp2_with fail
  refine (still_yes v l g _ hl hh2 (HT.out.on hb2)).mono ?_
  rintro e w3 ⟨rfl, hcg⟩
  have hb := hcg.below (fun _ _ x => x)
  have hs3 := block_on hs2 hb
  have hb3 := hb2.trans (hb.mono hb2.size)
  obtain ⟨c0, c1, c2, c3⟩ := spec_cellsI hs3
  clear hcg hb hs2 hb2 hh2
  go_wp2_with fail
  refine (may_below _ _ _ _ _).mono ?_
  rintro e w4 ⟨rfl, hb⟩
  rw [hmay]
  have hs4 := block_on hs3 hb
  have hb4 := hb3.trans (hb.mono hb3.size)
  clear c0 c1 c2 c3 hb hb3 hs3
  obtain ⟨c0, c1, c2, c3⟩ := spec_cellsI hs4
  go_wp2_with fail
  refine (shaped_any v l K _ (by omega) hl (HT.out.on hb4)).mono ?_
  rintro e w5 ⟨⟨b, rfl, _, hno⟩, rfl⟩
  obtain rfl := hno Hsh.out
  go_wp2
  go_ret2
  exact ⟨rfl, hb4⟩

set_option maxRecDepth 100000 in
set_option maxHeartbeats 2000000 in
theorem lawSpare_ok (K M O S : Nat) (v : Value) (l : List ByteArray) (w : World) (hK : 1 ≤ K ∧ K ≤ 20) (hM : 1 ≤ M ∧ M ≤ 20) (hO : 1 ≤ O ∧ O ≤ M) (hS : S ≤ 65535) (hsh : Shaped l K) (ht : TextsAt w v l) :
    Calls Tryz.prog 46 #[specV K M O S, v] w fun e w' => ∃ v', e = .returned (.tuple #[v', .bool true]) ∧ w'.ownsRow w.heap.size 9 1 v' M (textV (sparesOf K M O S l (l.getD 0 ByteArray.empty).size)) ∧ Below w.heap.size w w' := by
  have hmay : mayB K M O S = true := by simp [mayB]; omega
  have hlK := hsh.1
  have hl : l.length ≤ 8796093022208 := by omega
  have HT := hide ht
  have Hsh := hide hsh
  have HlK := hide hlK
  clear ht hsh hlK
  go_enter Tryz.func46, Tryz.ntmps46
  go_wp2_with fail
  refine (handed_any v l _ hl (HT.out.on ((Below.refl _ _).alloc (Nat.le_refl _) _))).mono ?_
  rintro e w1 ⟨g, rfl, hh, hg, hb⟩
  have hs1 := block_on (heap_alloc_new w _) hb
  have hb1 : Below w.heap.size w w1 := ((Below.refl _ _).alloc (Nat.le_refl _) _).trans (hb.mono (by simp))
  obtain ⟨c0, c1, c2, c3⟩ := spec_cellsI hs1
  clear hb hg
  go_wp2_with fail
  refine (spare_ok K M O S _ l _ hK hM hO hS Hsh.out hh.texts).mono ?_
  rintro e w2 ⟨v', rfl, hv, hb⟩
  have hs2 := block_on hs1 hb
  have hh2 := hh.on hb
  have hb2 := hb1.trans (hb.mono hb1.size)
  have hv2 := owns_base (base' := w.heap.size) hv (fun k e => by have := (hv.lt k e).1; have := hb1.size; omega)
  clear c0 c1 c2 c3 hs1 hb1 hb hh hv
  go_wp2_with fail
  refine (still_yes v l g _ hl hh2 (HT.out.on hb2)).mono ?_
  rintro e w3 ⟨rfl, hcg⟩
  have hb := hcg.below (fun _ _ x => x)
  have hs3 := block_on hs2 hb
  have hb3 := hb2.trans (hb.mono hb2.size)
  have hv3 := owns_below hv2 hb
  obtain ⟨c0, c1, c2, c3⟩ := spec_cellsI hs3
  clear hcg hb hs2 hb2 hh2 hv2
  go_wp2_with fail
  refine (may_below _ _ _ _ _).mono ?_
  rintro e w4 ⟨rfl, hb⟩
  rw [hmay]
  have hs4 := block_on hs3 hb
  have hb4 := hb3.trans (hb.mono hb3.size)
  have hv4 := owns_below hv3 hb
  clear c0 c1 c2 c3 hb hb3 hs3 hv3
  obtain ⟨c0, c1, c2, c3⟩ := spec_cellsI hs4
  go_wp2_with fail
  refine (shaped_any v l K _ (by omega) hl (HT.out.on hb4)).mono ?_
  rintro e w5 ⟨⟨b, rfl, hyes, _⟩, rfl⟩
  obtain rfl := hyes Hsh.out
  go_wp2_with fail
  refine (rword_ok K M O S v l _ hK hM hO hS Hsh.out (HT.out.on hb4)).mono ?_
  rintro e w6 ⟨vw, rfl, hw, hb⟩
  obtain ⟨gw, capw, rfl, _, _⟩ := hw.form (by omega)
  have hcp := owns_cap hw
  unfold maxLen at hcp
  have hs6 := block_on hs4 hb
  have hb6 := hb4.trans (hb.mono hb4.size)
  have hv6 := owns_below hv4 hb
  have hsuf := owns_suffix (K := K) hw (by rw [knownTo_length, HlK.out]) (by omega)
  have hsl : K + M - K = M := by omega
  rw [hsl] at hsuf
  have hsp : (knownTo l (rowOf K M O S) (l.getD 0 ByteArray.empty).size M).drop K = sparesOf K M O S l (l.getD 0 ByteArray.empty).size := by unfold sparesOf; rw [HlK.out]
  rw [hsp] at hsuf
  have hne : ¬ capw = K := by omega
  have hnk : ¬ capw - K = 0 := by omega
  clear c0 c1 c2 c3 hb hb4 hs4 hv4 hw hsp
  obtain ⟨c0, c1, c2, c3⟩ := spec_cellsI hs6
  go_wp2_with fail
  refine (sameTexts_yes _ _ _ _ (by rw [sparesOf_length]; omega) (owns_texts hv6 (by rw [sparesOf_length])) hsuf).mono ?_
  rintro e w7 ⟨rfl, hcg⟩
  have hb7 := Below.chg hb6 hb6.size hcg
  have hv7 := owns_below hv6 (hcg.below (fun _ _ x => x))
  clear c0 c1 c2 c3 hcg hb6 hv6 hsuf hs6
  go_wp2
  go_ret2
  exact ⟨v', rfl, hv7, hb7⟩

end Go.Proofs.YtnjaofkieajnlaaGreat
