/- Texts of the proof, part 8. -/
import Derived.Test.YtnjaofkieajnlaaKnownG1
import Derived.Test.YtnjaofkieajnlaaKnownG6

/- handed and still: a list that is handed over with eight marks in its spare room, and the look whether it stands as it did. -/
namespace Go.Proofs.Ytnjaofkieajnlaa
open Go.RowKit

/-- The mark. -/
abbrev markB : ByteArray := ⟨#[109, 97, 114, 107]⟩

/-- Text i of a list that is being handed over, k marks behind it. -/
def handedAt (l : List ByteArray) (k i : Nat) : ByteArray := if i < l.length then l.getD i ByteArray.empty else if i < l.length + k then markB else ByteArray.empty

theorem handedAt_step (l : List ByteArray) (k i : Nat) : (if i = l.length + k then markB else handedAt l k i) = handedAt l (k + 1) i := by
  unfold handedAt
  by_cases h1 : i < l.length
  · rw [if_neg (by omega), if_pos h1, if_pos h1]
  · rw [if_neg h1, if_neg h1]
    by_cases e : i = l.length + k
    · rw [if_pos e, if_pos (show i < l.length + (k + 1) from by omega)]
    · rw [if_neg e]
      by_cases h2 : i < l.length + k
      · rw [if_pos h2, if_pos (by omega)]
      · rw [if_neg h2, if_neg (by omega)]

theorem handedAt_in (l : List ByteArray) (k i : Nat) (h : i < l.length) : handedAt l k i = l.getD i ByteArray.empty := by simp [handedAt, h]
theorem handedAt_mark (l : List ByteArray) (k i : Nat) (h : i < k) : handedAt l k (l.length + i) = markB := by
  unfold handedAt
  rw [if_neg (by omega), if_pos (by omega)]

/-- A list with eight marks behind it lies in block g. -/
abbrev HandedAt (w : World) (g : Nat) (l : List ByteArray) : Prop := w.rowIs g 9 (l.length + 8) (fun i => .string (handedAt l 8 i))

theorem HandedAt.texts {w : World} {g : Nat} {l : List ByteArray} (h : HandedAt w g l) : TextsAt w (.slice (some ⟨g, 0, none⟩) l.length (l.length + 8)) l :=
  ⟨_, _, rfl, by omega, fun k hk => ⟨g, 0, rfl, h.lt, by rw [Nat.zero_add, h.cell (by omega), handedAt_in l 8 k hk]⟩⟩

theorem splice_row {w : World} {g : Nat} {l : List ByteArray} (h : w.heap[g]? = some (.cells (splice (madeCells #[Value.string ByteArray.empty] (l.length + 8)).toList 0 (l.map Value.string)).toArray 9 (0, 0))) :
    w.rowIs g 9 (l.length + 8) (fun i => .string (handedAt l 0 i)) := by
  refine ⟨_, h, ?_, fun i hi => ?_⟩
  · rw [List.size_toArray, length_splice _ _ _ (by simp [size_madeCells])]; simp [size_madeCells]
  · rw [List.getElem?_toArray]
    unfold splice handedAt
    show _ = some (Value.string (if i < l.length then l.getD i ByteArray.empty else if i < l.length + 0 then markB else ByteArray.empty))
    rw [List.take_zero, List.nil_append, List.getElem?_append]
    by_cases h1 : i < l.length
    · rw [if_pos (by simpa using h1), if_pos h1]
      simp [h1]
    · rw [if_neg (by simpa using h1), if_neg h1, if_neg (by omega)]
      rw [List.getElem?_drop, Array.getElem?_toList]
      have e : 0 + (l.map Value.string).length + (i - (l.map Value.string).length) = i := by simp; omega
      rw [e]
      simp [madeCells, hi, Nat.mod_one]

theorem copy_run (l : List ByteArray) (ao : Option Addr) (cap : Nat) (w : World) (hc : ∀ k, k < l.length → ∃ q o, ao = some ⟨q, o, none⟩ ∧ q < w.heap.size ∧ w.cell? ⟨q, o + k, none⟩ = some (.string (l.getD k ByteArray.empty))) :
    ∃ W1, (∀ ty, (Builtin.copy_ #[28, 28] ty #[.slice (some ⟨w.heap.size, 0, none⟩) (l.length + 8) (l.length + 8), .slice ao l.length cap]).run Try.prog (w.alloc (.cells (madeCells #[.string ByteArray.empty] (l.length + 8)) 9)) = .ok (goInt l.length) W1) ∧
      W1.rowIs w.heap.size 9 (l.length + 8) (fun i => .string (handedAt l 0 i)) ∧ Below w.heap.size w W1 := by
  have hsz1 : (Try.prog.info? 9).map (·.size) = some 1 := by kernel_rfl
  by_cases h0 : l.length = 0
  · have hl : l = [] := List.eq_nil_of_length_eq_zero h0
    subst hl
    refine ⟨_, fun ty => run_copy_none (P := Try.prog) _ 28 28 ty 9 _ ao _ _ _ _ Try.underlying28 hsz1 (by simp), ?_, (Below.refl _ _).alloc (Nat.le_refl _) _⟩
    refine (World.rowIs_made w (.string ByteArray.empty) ([].length + 8) 9).congr (fun i _ => ?_)
    simp [handedAt]
  · obtain ⟨q, o, rfl, hq, _⟩ := hc 0 (by omega)
    have hcells := texts_cells hc rfl
    have hrun := fun ty => run_copy_row (P := Try.prog) (w.alloc (.cells (madeCells #[.string ByteArray.empty] (l.length + 8)) 9)) 28 28 ty 9 w.heap.size 0 (l.length + 8) (l.length + 8) ⟨q, o, none⟩ l.length cap (madeCells #[.string ByteArray.empty] (l.length + 8)) 9 (l.map Value.string) Try.underlying28 hsz1 (heap_alloc_new w _) (by simp) (fun j v hj => by
      have hjl : j < l.length := by have := (List.getElem?_eq_some_iff.1 hj).1; simpa using this
      rw [Addr.add_mid, World.cell?_alloc_lt _ _ _ (by exact hq), hcells j hjl]
      rw [List.getElem?_map, List.getElem?_eq_getElem hjl] at hj
      simp at hj
      subst hj
      simp [hjl]) (by simp [size_madeCells]) (fun v hv => by
      obtain ⟨x, _, rfl⟩ := List.mem_map.1 hv
      rfl)
    simp only [List.length_map] at hrun
    refine ⟨_, hrun, ?_, below_setRow ((Below.refl _ _).alloc (Nat.le_refl _) _) (Nat.le_refl _) _⟩
    refine splice_row ?_
    rw [setRow_heap _ _ _ _ _ _ (heap_alloc_new w _)]
    simp [splice]

set_option maxRecDepth 100000 in
set_option maxHeartbeats 2000000 in
theorem handed_any (v : Value) (l : List ByteArray) (w : World) (hl : l.length ≤ 8796093022208) (ht : TextsAt w v l) :
    Calls Try.prog 13 #[v] w fun e w' => ∃ g, e = .returned (.slice (some ⟨g, 0, none⟩) l.length (l.length + 8)) ∧ HandedAt w' g l ∧ w.heap.size ≤ g ∧ Below w.heap.size w w' := by
  obtain ⟨ao, cap, rfl, hcap, hc⟩ := ht
  have hmk : ∀ w, (Instr.makeSlice 28 (.int .i64 ((l.length : Int) + 8)) (.int .i64 ((l.length : Int) + 8))).run Try.prog w = .ok (.slice (some ⟨w.heap.size, 0, none⟩) (l.length + 8) (l.length + 8)) (w.alloc (.cells (madeCells #[.string ByteArray.empty] (l.length + 8)) 9)) := fun w => by
    have h := run_make_row' (P := Try.prog) 28 9 (.string ByteArray.empty) 16 Try.underlying28 Try.infoText rfl .i64 .i64 (l.length + 8) (by omega) (by omega) w
    rw [show ((l.length + 8 : Nat) : Int) = (l.length : Int) + 8 from by omega] at h
    exact h
  obtain ⟨W1, hrun, hrow, hbel⟩ := copy_run l ao cap w hc
  clear hc
  have Hb := hide hbel
  have Hr := hide hrow
  clear hbel hrow
  go_enter Try.func13, Try.ntmps13
  go_wp2
  clear hrun hmk
  go_loopw [14] (fun i wr => ∃ k : Nat, k ≤ 8 ∧ i = .int .i64 k ∧ wr.rowIs w.heap.size 9 (l.length + 8) (fun i => .string (handedAt l k i)) ∧ Below w.heap.size w wr) (fun i _ => 8 - (intOf i).toNat)
  case atStart => exact ⟨0, by omega, rfl, Hr.out, Hb.out⟩
  case round =>
    clear Hr Hb
    obtain ⟨k, hk, rfl, hrow, hbel⟩ := hrel
    by_cases hlt : k < 8
    · have hcell := hrow.cell (show l.length + k < l.length + 8 from by omega)
      have hfrz := hrow.frozen (l.length + k)
      have hnext : (wr.setCell ⟨w.heap.size, l.length + k, none⟩ (.string markB)).rowIs w.heap.size 9 (l.length + 8) (fun i => .string (handedAt l (k + 1) i)) :=
        (hrow.set (l.length + k) (.string markB)).congr (fun i _ => by rw [← handedAt_step]; split <;> rfl)
      have hb2 := hbel.setCell (p := ⟨w.heap.size, l.length + k, none⟩) (Nat.le_refl _) (.string markB)
      clear hrow hbel
      go_wp2
      go_roundw
      case rel => exact ⟨k + 1, by omega, by go_num, hnext, hb2⟩
      case measure => simp [intOf]; omega
    · have hk8 : k = 8 := by omega
      subst hk8
      go_wp2
      go_ret
      exact ⟨_, rfl, hrow, Nat.le_refl _, hbel⟩

set_option maxRecDepth 100000 in
set_option maxHeartbeats 2000000 in
/-- still says yes where the list and its marks stand as they were laid. -/
theorem still_yes (v : Value) (l : List ByteArray) (g : Nat) (w : World) (hl : l.length ≤ 8796093022208) (hh : HandedAt w g l) (ht : TextsAt w v l) :
    Calls Try.prog 15 #[.slice (some ⟨g, 0, none⟩) l.length (l.length + 8), v] w fun e w' => e = .returned (.bool true) ∧ Chg (fun _ => False) w w' := by
  obtain ⟨ao, cap, hv, hcap, hc⟩ := ht
  have ht : TextsAt w v l := ⟨ao, cap, hv, hcap, hc⟩
  have HT := hide ht
  have HH := hide hh
  subst hv
  clear hc ht hh
  go_enter Try.func15, Try.ntmps15
  go_wp2_with fail
  refine (sameTexts_yes _ _ l _ hl HH.out.texts HT.out).mono ?_
  rintro e w1 ⟨rfl, hcg⟩
  have hh1 : HandedAt w1 g l := HH.out.of_block (hcg.block g HH.out.lt (fun x => x))
  have Hcg := hide hcg
  have Hh := hide hh1
  clear hcg hh1 HT HH
  go_wp2
  go_loop [18] (fun i => ∃ k : Nat, k ≤ 8 ∧ i = .int .i64 k) (fun i => 8 - (intOf i).toNat)
  case atStart => exact ⟨0, by omega, rfl⟩
  case round =>
    obtain ⟨k, hk, rfl⟩ := hrel
    by_cases hlt : k < 8
    · have hcell := Hh.out.cell (show l.length + k < l.length + 8 from by omega)
      rw [handedAt_mark l 8 k hlt] at hcell
      go_wp2
      go_round
      case rel => exact ⟨k + 1, by omega, by go_num⟩
      case measure => simp [intOf]; omega
    · go_wp2
      go_ret
      exact ⟨rfl, Hcg.out⟩

end Go.Proofs.Ytnjaofkieajnlaa

/- Rowed: for every specification the program's Rows answers as the document asks. -/
namespace Go.Proofs.Ytnjaofkieajnlaa
open Go.RowKit

theorem may_nats {K M O S : Int} (h : mayB K M O S = true) : ∃ k m o s : Nat, K = k ∧ M = m ∧ O = o ∧ S = s ∧ (1 ≤ k ∧ k ≤ 20) ∧ (1 ≤ m ∧ m ≤ 20) ∧ (1 ≤ o ∧ o ≤ m) ∧ s ≤ 65535 := by
  have hh := mayB_true h
  exact ⟨K.toNat, M.toNat, O.toNat, S.toNat, by omega, by omega, by omega, by omega, by omega, by omega, by omega, by omega⟩

theorem block_on {w w1 : World} {h : Nat} {o : Obj} (hs : w.heap[h]? = some o) (hb : Below w.heap.size w w1) : w1.heap[h]? = some o := by
  rw [hb.block h (Array.getElem?_eq_some_iff.1 hs).1]; exact hs

theorem may_below (K M O S : Int) (w : World) :
    Calls Try.prog 16 #[specV K M O S] w fun e w' => e = .returned (.bool (mayB K M O S)) ∧ Below w.heap.size w w' := by
  refine (may_any K M O S w).mono ?_
  rintro e w' ⟨rfl, rfl⟩
  exact ⟨rfl, (Below.refl _ _).alloc (Nat.le_refl _) _⟩

/-- The cells of a specification of whatever numbers. -/
theorem spec_cellsI {w : World} {h : Nat} {K M O S : Int} (hs : w.heap[h]? = some (.cells #[.int .i64 K, .int .i64 M, .int .i64 O, .int .i64 S] 23 (0, 0))) :
    w.cell? ⟨h, 0, none⟩ = some (.int .i64 K) ∧ w.cell? ⟨h, 1, none⟩ = some (.int .i64 M) ∧ w.cell? ⟨h, 2, none⟩ = some (.int .i64 O) ∧ w.cell? ⟨h, 3, none⟩ = some (.int .i64 S) := by
  refine ⟨?_, ?_, ?_, ?_⟩ <;> (rw [cell_of_row _ _ _ _ _ _ hs]; rfl)

set_option maxRecDepth 100000 in
set_option maxHeartbeats 1000000 in
theorem lawRows_ok (K M O S : Nat) (w : World) (hK : 1 ≤ K ∧ K ≤ 20) (hM : 1 ≤ M ∧ M ≤ 20) (hO : 1 ≤ O ∧ O ≤ M) (hS : S ≤ 65535) :
    Calls Try.prog 11 #[specV K M O S] w fun e w' => ∃ g rv, e = .returned (.tuple #[.slice (some ⟨g, 0, none⟩) M M, .bool true]) ∧ RowsAt w' (g + 1) g M rv (rowOf K M O S) ∧ w.heap.size ≤ g ∧ Below w.heap.size w w' := by
  have hmay : mayB K M O S = true := by simp [mayB]; omega
  go_enter Try.func11, Try.ntmps11
  go_wp2_with fail
  refine (rows_ok K M O S _ hK hM hO hS).mono ?_
  rintro e w1 ⟨g, rv, rfl, hr, hg, hb⟩
  have hs1 := block_on (heap_alloc_new w _) hb
  have hb1 : Below w.heap.size w w1 := ((Below.refl _ _).alloc (Nat.le_refl _) _).trans (hb.mono (by simp))
  simp only [World.size_alloc] at hg
  obtain ⟨c0, c1, c2, c3⟩ := spec_cellsI hs1
  clear hb
  go_wp2_with fail
  refine (may_below _ _ _ _ _).mono ?_
  rintro e w2 ⟨rfl, hb⟩
  rw [hmay]
  have hs2 := block_on hs1 hb
  have hb2 := hb1.trans (hb.mono hb1.size)
  have hr2 := hr.below hb
  clear c0 c1 c2 c3 hs1 hb1 hr hb
  obtain ⟨c0, c1, c2, c3⟩ := spec_cellsI hs2
  go_wp2_with fail
  refine (rrows_ok K M O S _ hK hM hO hS).mono ?_
  rintro e w3 ⟨g3, rv3, rfl, hr3, hg3, hb⟩
  have hb3 := hb2.trans (hb.mono hb2.size)
  have hr2' := hr2.below hb
  clear c0 c1 c2 c3 hs2 hb2 hr2 hb
  go_wp2_with fail
  refine (sameRows_yes g g3 (g + 1) (g3 + 1) M rv rv3 _ _ (by omega) (fun i _ => by have := rowOf_len K M O S i; omega) hr2' hr3).mono ?_
  rintro e w4 ⟨rfl, hcg⟩
  have hr4 := hr2'.chg hcg (fun x => x) (fun _ _ _ x => x)
  have hb4 := ((Chg.of_below hb3 (fun _ => False)).trans hcg (fun _ _ x => x)).below (fun _ _ x => x)
  clear hcg hr2' hr3 hb3
  go_wp2
  go_ret2
  exact ⟨g, rv, rfl, hr4, by omega, hb4⟩

set_option maxRecDepth 100000 in
set_option maxHeartbeats 1000000 in
theorem lawRows_bad (K M O S : Int) (w : World) (hmay : mayB K M O S = false) :
    Calls Try.prog 11 #[specV K M O S] w fun e w' => e = .returned (.tuple #[.slice none 0 0, .bool true]) ∧ Below w.heap.size w w' := by
  go_enter Try.func11, Try.ntmps11
  go_wp2_with fail
  refine (rows_bad K M O S _ hmay).mono ?_
  rintro e w1 ⟨rfl, hb⟩
  have hs1 := block_on (heap_alloc_new w _) hb
  have hb1 : Below w.heap.size w w1 := ((Below.refl _ _).alloc (Nat.le_refl _) _).trans (hb.mono (by simp))
  obtain ⟨c0, c1, c2, c3⟩ := spec_cellsI hs1
  clear hb
  go_wp2_with fail
  refine (may_below _ _ _ _ _).mono ?_
  rintro e w2 ⟨rfl, hb⟩
  rw [hmay]
  have hb2 := hb1.trans (hb.mono hb1.size)
  clear c0 c1 c2 c3 hs1 hb1 hb
  go_wp2
  go_ret2
  exact ⟨rfl, hb2⟩

set_option maxRecDepth 100000 in
set_option maxHeartbeats 1000000 in
theorem rowed_any (K M O S : Int) (w : World) :
    Calls Try.prog 3 #[specV K M O S] w fun e w' => e = .returned (.bool true) ∧ Below w.heap.size w w' := by
  cases hmay : mayB K M O S
  · go_enter Try.func3, Try.ntmps3
    go_wp2_with fail
    refine (lawRows_bad _ _ _ _ _ hmay).mono ?_
    rintro e w1 ⟨rfl, hb⟩
    have hb1 : Below w.heap.size w w1 := ((Below.refl _ _).alloc (Nat.le_refl _) _).trans (hb.mono (by simp))
    clear hb
    go_wp2
    go_ret
    exact ⟨rfl, hb1⟩
  · obtain ⟨k, m, o, s, rfl, rfl, rfl, rfl, hK, hM, hO, hS⟩ := may_nats hmay
    go_enter Try.func3, Try.ntmps3
    go_wp2_with fail
    refine (lawRows_ok k m o s _ hK hM hO hS).mono ?_
    rintro e w1 ⟨g, rv, rfl, _, _, hb⟩
    have hb1 : Below w.heap.size w w1 := ((Below.refl _ _).alloc (Nat.le_refl _) _).trans (hb.mono (by simp))
    clear hb
    go_wp2
    go_ret
    exact ⟨rfl, hb1⟩

end Go.Proofs.Ytnjaofkieajnlaa

/- What the program's Spare does: the spare pieces of the word in new memory, or an error. -/
namespace Go.Proofs.Ytnjaofkieajnlaa
open Go.RowKit

/-- Texts as values. -/
def textV (l : List ByteArray) : List Value := l.map Value.string

theorem textV_append (a b : List ByteArray) : textV (a ++ b) = textV a ++ textV b := by simp [textV]
theorem textV_length (l : List ByteArray) : (textV l).length = l.length := by simp [textV]

theorem textV_get (l : List ByteArray) (k : Nat) (h : k < l.length) : (textV l)[k]? = some (.string (l.getD k ByteArray.empty)) := by
  simp [textV, h]

theorem textV_one (l : List ByteArray) : ∀ u ∈ textV l, u.oneCell' = true := fun u hu => by
  obtain ⟨x, _, rfl⟩ := List.mem_map.1 hu
  rfl

/-- A slice of texts that is owned reads as texts. -/
theorem owns_texts {w : World} {base n : Nat} {v : Value} {l : List ByteArray} (h : w.ownsRow base 9 1 v n (textV l)) (hn : n = l.length) : TextsAt w v l := by
  subst hn
  rcases h.2 with ⟨rfl, hn⟩ | ⟨g, cap, cur, rfl, _, hg, hc, _, _, ht⟩
  · have : l = [] := List.eq_nil_of_length_eq_zero hn
    subst this
    exact ⟨none, 0, rfl, Nat.le_refl _, fun k hk => by simp at hk⟩
  · refine ⟨_, cap, rfl, hc, fun k hk => ⟨g, 0, rfl, (Array.getElem?_eq_some_iff.1 hg).1, ?_⟩⟩
    rw [cell_of_row _ _ _ _ _ _ hg, Nat.zero_add]
    have h1 := textV_get l k hk
    rw [← ht, List.getElem?_take] at h1
    rw [if_pos (by omega)] at h1
    simpa using h1

theorem run_make_texts (n : Nat) (hn : n ≤ 1000000) (w : World) : (Instr.makeSlice 28 (.int .i64 0) (.int .i64 (n : Int))).run Try.prog w = .ok (.slice (some ⟨w.heap.size, 0, none⟩) 0 n) (w.alloc (.cells (madeCells #[.string ByteArray.empty] n) 9)) := by
  obtain ⟨i, hi, hzz⟩ := Option.map_eq_some_iff.1 Try.infoText
  simp only [Prod.mk.injEq] at hzz
  obtain ⟨hz, hs, hb⟩ := hzz
  have h := run_make (P := Try.prog) w 28 9 i (.string ByteArray.empty) Try.underlying28 hi hz .i64 .i64 0 (n : Int) (by omega) (by omega) (by rw [hb]; omega) (by omega)
  simp only [Int.toNat_natCast, hs, Nat.mul_one] at h
  exact h

/-- The cells of a list of texts, as the law of append asks them. -/
theorem texts_news {w : World} {q o : Nat} {l : List ByteArray} (hc : ∀ k, k < l.length → w.cell? ⟨q, o + k, none⟩ = some (.string (l.getD k ByteArray.empty))) : ∀ j u, (textV l)[j]? = some u → w.cell? ((⟨q, o, none⟩ : Addr).add j) = some u := fun j u hu => by
  have hj : j < l.length := by have := (List.getElem?_eq_some_iff.1 hu).1; rwa [textV_length] at this
  rw [Addr.add_mid, hc j hj]
  rw [textV_get l j hj] at hu
  exact hu

/-- Where word.Spare stands behind i rows. -/
structure SpAt (W wr : World) (K : Nat) (kn : List ByteArray) (i : Nat) (v9 v10 : Value) : Prop where
  known : wr.ownsRow W.heap.size 9 1 v9 (K + i) (textV kn)
  spare : wr.ownsRow W.heap.size 9 1 v10 i (textV (kn.drop K))
  apart : ∀ k, v9.ownBlock = some k → v10.ownBlock ≠ some k
  below : Below W.heap.size W wr

theorem owns_below {w w1 : World} {base : Nat} {e : TypeId} {size : Nat} {v : Value} {n : Nat} {xs : List Value} (h : w.ownsRow base e size v n xs) (hb : Below w.heap.size w w1) : w1.ownsRow base e size v n xs :=
  owns_of_block h (fun k hk => hb.block k (h.lt k hk).2)

theorem SpAt.on {W wr w1 : World} {K i : Nat} {kn : List ByteArray} {v9 v10 : Value} (h : SpAt W wr K kn i v9 v10) (hb : Below wr.heap.size wr w1) : SpAt W w1 K kn i v9 v10 :=
  ⟨owns_below h.known hb, owns_below h.spare hb, h.apart, h.below.trans (hb.mono h.below.size)⟩

/-- Behind the first append the spare pieces are owned as they were. -/
theorem SpAt.mid {W wr w1 : World} {K i : Nat} {kn : List ByteArray} {v9 v10 : Value} {o : Obj} (h : SpAt W wr K kn i v9 v10) (hg : (wr.alloc o).grownBy w1 v9.ownBlock) : w1.ownsRow W.heap.size 9 1 v10 i (textV (kn.drop K)) :=
  owns_of_block h.spare (fun k hk => (grownBy_of_alloc hg).block k (h.spare.lt k hk).2 (fun e => h.apart k e.symm hk))

theorem SpAt.step {W wr w1 w2 : World} {K i g1 g2 c1 c2 n1 n2 : Nat} {kn : List ByteArray} {t : ByteArray} {v9 v10 : Value} {o1 o2 : Obj} {xs1 xs2 : List Value} (h : SpAt W wr K kn i v9 v10) (hkn : kn.length = K + i)
    (hg1 : (wr.alloc o1).grownBy w1 v9.ownBlock) (hw1 : w1.ownsRow W.heap.size 9 1 (.slice (some ⟨g1, 0, none⟩) n1 c1) n1 xs1) (hx1 : xs1 = textV kn ++ [.string t]) (hn1 : n1 = K + i + 1) (ha1 : v9.ownBlock = some g1 ∨ g1 = wr.heap.size + 1)
    (hg2 : (w1.alloc o2).grownBy w2 v10.ownBlock) (hw2 : w2.ownsRow W.heap.size 9 1 (.slice (some ⟨g2, 0, none⟩) n2 c2) n2 xs2) (hx2 : xs2 = textV (kn.drop K) ++ [.string t]) (hn2 : n2 = i + 1) (ha2 : v10.ownBlock = some g2 ∨ g2 = w1.heap.size + 1) :
    SpAt W w2 K (kn ++ [t]) (i + 1) (.slice (some ⟨g1, 0, none⟩) n1 c1) (.slice (some ⟨g2, 0, none⟩) n2 c2) := by
  subst hx1 hn1 hx2 hn2
  have hlt1 := hw1.lt g1 rfl
  have hsz1 := (grownBy_of_alloc hg1).size
  have hne : ∀ k, v10.ownBlock = some k → k ≠ g1 := fun k hk e => by
    subst e
    rcases ha1 with ha1 | ha1
    · exact h.apart k ha1 hk
    · have := (h.spare.lt k hk).2; omega
  have hws := h.below.size
  refine ⟨?_, ?_, ?_, ?_⟩
  · have h2 := owns_of_block (w' := w2) hw1 (fun k hk => (grownBy_of_alloc hg2).block k (hw1.lt k hk).2 (fun e => by
      simp [Value.ownBlock] at hk
      exact hne k e.symm hk.symm))
    rw [textV_append]; exact h2
  · rw [List.drop_append_of_le_length (by omega), textV_append]; exact hw2
  · intro k e1 e2
    simp [Value.ownBlock] at e1 e2
    rcases ha2 with ha2 | ha2
    · exact hne g2 ha2 (by omega)
    · omega
  · exact ((((Chg.of_below h.below (fun _ => False)).alloc _).grown hg1 (fun k e => Or.inl (h.known.lt k e).1)).alloc _ |>.grown hg2 (fun k e => Or.inl (h.spare.lt k e).1)).below (fun _ _ f => f)

theorem Shaped.sizes {l : List ByteArray} {n : Nat} (h : Shaped l n) : ∀ x ∈ l, x.size = (l.getD 0 ByteArray.empty).size := fun x hx => by
  obtain ⟨k, hk, rfl⟩ := List.mem_iff_getElem.1 hx
  have := (h.2 k hk).1
  rwa [List.getD_eq_getElem?_getD, List.getElem?_eq_getElem hk] at this

set_option maxRecDepth 100000 in
set_option maxHeartbeats 4000000 in
theorem wspare_ok (K M O S : Nat) (v : Value) (l : List ByteArray) (w : World) (hK : 1 ≤ K ∧ K ≤ 20) (hM : 1 ≤ M ∧ M ≤ 20) (hO : 1 ≤ O ∧ O ≤ M) (hS : S ≤ 65535) (hsh : Shaped l K) (ht : TextsAt w v l) :
    Calls Try.prog 57 #[specV K M O S, v] w fun e w' => ∃ v', e = .returned (.tuple #[v', .int .i64 0]) ∧ w'.ownsRow w.heap.size 9 1 v' M (textV (sparesOf K M O S l (l.getD 0 ByteArray.empty).size)) ∧ Below w.heap.size w w' := by
  have hlK := hsh.1
  have HT := hide ht
  have Hsh := hide hsh
  obtain ⟨ao, cap, rfl, hcap, hc⟩ := ht
  obtain ⟨q, o, rfl, hq, _⟩ := hc 0 (by omega)
  have hcells := texts_cells hc rfl
  have HC := hide hcells
  clear hsh hc hcells
  subst hlK
  have hmk1 : ∀ w, (Instr.makeSlice 28 (.int .i64 0) (.int .i64 ((l.length : Int) + (M : Int)))).run Try.prog w = .ok (.slice (some ⟨w.heap.size, 0, none⟩) 0 (l.length + M)) (w.alloc (.cells (madeCells #[.string ByteArray.empty] (l.length + M)) 9)) := fun w => by
    have h := run_make_texts (l.length + M) (by omega) w
    rw [show ((l.length + M : Nat) : Int) = (l.length : Int) + (M : Int) from by omega] at h
    exact h
  have hmk2 := run_make_texts M (by omega)
  obtain ⟨i0, hi, hz0, hz1, hz2⟩ := info_parts Try.infoText
  go_enter Try.func57, Try.ntmps57
  go_wp2_with fail
  refine (wrows_ok l.length M O S _ hK hM hO hS).mono ?_
  rintro e w1 ⟨g, rv, rfl, hr, hg, hb⟩
  have hs1 := block_on (heap_alloc_new w _) hb
  have hb1 : Below w.heap.size w w1 := ((Below.refl _ _).alloc (Nat.le_refl _) _).trans (hb.mono (by simp))
  simp only [World.size_alloc] at hg
  obtain ⟨c0, c1, c2, c3⟩ := spec_cellsI hs1
  clear hb
  go_wp2_with fail
  refine (sizeOf_any _ l l.length _ (by omega) (by omega) (HT.out.on hb1)).mono ?_
  rintro e w2 ⟨⟨r, rfl, hyes, _⟩, rfl⟩
  obtain ⟨hre, hr1, hr16⟩ := hyes Hsh.out
  have Hre := hide hre
  clear hyes hre
  have hc2 : ∀ k, k < l.length → (w2.alloc (.cells (madeCells #[.string ByteArray.empty] (l.length + M)) 9)).cell? ⟨q, o + k, none⟩ = some (.string (l.getD k ByteArray.empty)) := fun k hk => by
    rw [World.cell?_alloc_lt _ _ _ (by have := hb1.size; show q < _; omega), hb1.cell (p := ⟨q, o + k, none⟩) hq]; exact HC.out k hk
  have HN := hide (texts_news hc2)
  clear hc2
  have hr0 : ((r : Int) == 0) = false := by simp; omega
  have hm1 := World.ownsRow_made (base := w2.heap.size) (e := 9) (size := 1) w2 (madeCells #[.string ByteArray.empty] (l.length + M)) (l.length + M) (Nat.le_refl _) (by unfold maxLen; omega) (by simp [size_madeCells])
  go_wp2_with (at_builtin; refine wpList_append_lies _ rfl (.tmp 34) (.tmp 35) 28 rfl w2.heap.size 9 i0 (.string ByteArray.empty) 1 16 Try.underlying28 hi hz0 hz1 hz2 rfl (by decide) _ _ _ rfl hm1 ⟨q, o, none⟩ l.length cap (textV l) rfl (by rw [textV_length]; omega) HN.out (textV_one l) (by omega) (by unfold maxLen; omega) (by omega) (by simp) (w2.heap.size + 1) (by simp) ?_)
  intro g9 cap9 w3 hown9 hgr9 hat9 hlt9
  have hb3 : Below w2.heap.size w2 w3 := ((Below.refl _ _).alloc (Nat.le_refl _) _).grown hgr9 (by simp) (fun k e => by simp [Value.ownBlock] at e; omega)
  have hs3 := block_on hs1 hb3
  have hr3 := hr.below hb3
  have hsz3 := hb3.size
  clear c0 c1 c2 c3 hm1 hgr9 hat9 hs1
  obtain ⟨c0, c1, c2, c3⟩ := spec_cellsI hs3
  have hst : SpAt w2 (w3.alloc (.cells (madeCells #[.string ByteArray.empty] M) 9)) l.length (knownTo l (rowOf l.length M O S) r 0) 0 (.slice (some ⟨g9, 0, none⟩) l.length cap9) (.slice (some ⟨w3.heap.size, 0, none⟩) 0 M) := by
    refine ⟨hown9.alloc _, ?_, fun k e => ?_, hb3.alloc hsz3 _⟩
    · simp only [knownTo, List.drop_length]
      exact World.ownsRow_made w3 _ M hsz3 (by unfold maxLen; omega) (by simp [size_madeCells])
    · simp [Value.ownBlock] at e ⊢
      omega
  clear hown9
  go_wp2_with fail
  clear c0 c1 c2 c3 hs3 hmk1 hmk2
  go_loopw [9, 10, 42] (fun v9 v10 t wr => ∃ i : Nat, i ≤ M ∧ t = .int .i64 i ∧ SpAt w2 wr l.length (knownTo l (rowOf l.length M O S) r i) i v9 v10) (fun _ _ t _ => M - (intOf t).toNat)
  case atStart => exact ⟨0, Nat.zero_le _, rfl, hst⟩
  case round =>
    clear hst
    obtain ⟨i, hiM, rfl, hst⟩ := hrel
    by_cases hlt : i < M
    · have hrr := hr.below hst.below
      have hrc := hrr.cell hlt
      have hrl := rowOf_len l.length M O S i
      have hkl := knownTo_length l (rowOf l.length M O S) r i
      go_wp2_with fail
      refine (sum_any _ (rv i) (knownTo l (rowOf l.length M O S) r i) (rowOf l.length M O S i) r _ _ (by omega) (fun j hj => by have := rowOf_lt l.length M O S i j hj; omega) (by omega) (knownTo_size (fun x hx => ?hx) i) (hrr.own i hlt) (owns_texts hst.known hkl.symm)).mono ?_
      case hx => rw [Hre.out]; exact Hsh.out.sizes x hx
      rintro e w4 ⟨rfl, hb4⟩
      have hst4 := hst.on hb4
      have hks : knownTo l (rowOf l.length M O S) r (i + 1) = knownTo l (rowOf l.length M O S) r i ++ [sumB (knownTo l (rowOf l.length M O S) r i) (rowOf l.length M O S i) r] := rfl
      have Hks := hide hks
      generalize hkn : knownTo l (rowOf l.length M O S) r i = kn at *
      generalize htt : sumB kn (rowOf l.length M O S i) r = tt at *
      have hw4 := hst4.below.size
      have hkw := hst4.known
      clear hst hb4 hrr hrc hks hkn htt
      go_wp2_with (first | (at_builtin; refine wpList_append_lies _ rfl (.tmp 50) (.tmp 52) 28 rfl w2.heap.size 9 i0 (.string ByteArray.empty) 1 16 Try.underlying28 hi hz0 hz1 hz2 rfl (by decide) _ _ _ rfl (hkw.alloc _) ⟨w4.heap.size, 0, none⟩ 1 1 [.string tt] rfl rfl (one_news _ _ _) (one_oneCell rfl) (by decide) (by unfold maxLen; omega) (by omega) (by simp; omega) (w4.heap.size + 1) (by simp) ?_))
      intro g5 cap5 w5 hown5 hgr5 hat5 hlt5
      have hsp5 := hst4.mid hgr5
      have hw5 : w2.heap.size ≤ w5.heap.size := by have := (grownBy_of_alloc hgr5).size; omega
      go_wp2_with (first | (at_builtin; refine wpList_append_lies _ rfl (.tmp 54) (.tmp 56) 28 rfl w2.heap.size 9 i0 (.string ByteArray.empty) 1 16 Try.underlying28 hi hz0 hz1 hz2 rfl (by decide) _ _ _ rfl (hsp5.alloc _) ⟨w5.heap.size, 0, none⟩ 1 1 [.string tt] rfl rfl (one_news _ _ _) (one_oneCell rfl) (by decide) (by unfold maxLen; omega) (by omega) (by simp; omega) (w5.heap.size + 1) (by simp) ?_))
      intro g6 cap6 w6 hown6 hgr6 hat6 hlt6
      have hnext := hst4.step hkl hgr5 hown5 rfl rfl hat5 hgr6 hown6 rfl rfl hat6
      clear hst4 hkw hown5 hgr5 hat5 hsp5 hown6 hgr6 hat6
      go_wp2
      go_roundw
      case rel => exact ⟨i + 1, by omega, by go_num, by rw [Hks.out]; exact hnext⟩
      case measure => simp [intOf]; omega
    · have hiM2 : i = M := by omega
      subst hiM2
      have hres : wr.ownsRow w.heap.size 9 1 u10 i (textV (sparesOf l.length i O S l (l.getD 0 ByteArray.empty).size)) := by
        have h1 := hst.spare
        rw [Hre.out] at h1
        exact owns_base h1 (fun k e => by have := (h1.lt k e).1; have := hb1.size; omega)
      have hbf := hb1.trans (hst.below.mono hb1.size)
      clear hst
      go_wp2
      go_ret2
      exact ⟨_, rfl, hres, hbf⟩

end Go.Proofs.Ytnjaofkieajnlaa

/- The program's Spare whole: an error, or the spare pieces. -/
namespace Go.Proofs.Ytnjaofkieajnlaa
open Go.RowKit

set_option maxRecDepth 100000 in
set_option maxHeartbeats 1000000 in
theorem wspare_bad (K M O S : Int) (v : Value) (w : World) (hmay : mayB K M O S = false) :
    Calls Try.prog 57 #[specV K M O S, v] w fun e w' => e = .returned (.tuple #[.slice none 0 0, .int .i64 1]) ∧ Below w.heap.size w w' := by
  go_enter Try.func57, Try.ntmps57
  go_wp2_with fail
  refine (wrows_bad K M O S _ hmay).mono ?_
  rintro e w1 ⟨rfl, hb⟩
  have hb1 : Below w.heap.size w w1 := ((Below.refl _ _).alloc (Nat.le_refl _) _).trans (hb.mono (by simp))
  clear hb
  go_wp2
  go_ret2
  exact ⟨rfl, hb1⟩

set_option maxRecDepth 100000 in
set_option maxHeartbeats 1000000 in
theorem wspare_shape (K M O S : Nat) (v : Value) (l : List ByteArray) (w : World) (hK : 1 ≤ K ∧ K ≤ 20) (hM : 1 ≤ M ∧ M ≤ 20) (hO : 1 ≤ O ∧ O ≤ M) (hS : S ≤ 65535) (hl : l.length ≤ 8796093022208) (hsh : ¬ Shaped l K) (ht : TextsAt w v l) :
    Calls Try.prog 57 #[specV K M O S, v] w fun e w' => e = .returned (.tuple #[.slice none 0 0, .int .i64 3]) ∧ Below w.heap.size w w' := by
  have HT := hide ht
  have Hsh := hide hsh
  clear ht hsh
  go_enter Try.func57, Try.ntmps57
  go_wp2_with fail
  refine (wrows_ok K M O S _ hK hM hO hS).mono ?_
  rintro e w1 ⟨g, rv, rfl, hr, hg, hb⟩
  have hs1 := block_on (heap_alloc_new w _) hb
  have hb1 : Below w.heap.size w w1 := ((Below.refl _ _).alloc (Nat.le_refl _) _).trans (hb.mono (by simp))
  obtain ⟨c0, c1, c2, c3⟩ := spec_cellsI hs1
  clear hb hr hg
  go_wp2_with fail
  refine (sizeOf_any _ l K _ (by omega) (by omega) (HT.out.on hb1)).mono ?_
  rintro e w2 ⟨⟨r, rfl, _, hno⟩, rfl⟩
  obtain rfl := hno Hsh.out
  go_wp2
  go_ret2
  exact ⟨rfl, hb1⟩


set_option maxRecDepth 100000 in
set_option maxHeartbeats 1000000 in
theorem spare_bad (K M O S : Int) (v : Value) (w : World) (hmay : mayB K M O S = false) :
    Calls Try.prog 35 #[specV K M O S, v] w fun e w' => e = .returned (.tuple #[.slice none 0 0, .int .i64 1]) ∧ Below w.heap.size w w' := by
  go_enter Try.func35, Try.ntmps35
  go_wp2_with fail
  refine (wspare_bad K M O S v _ hmay).mono ?_
  rintro e w1 ⟨rfl, hb⟩
  have hb1 : Below w.heap.size w w1 := ((Below.refl _ _).alloc (Nat.le_refl _) _).trans (hb.mono (by simp))
  clear hb
  go_wp2
  go_ret2
  exact ⟨rfl, hb1⟩

set_option maxRecDepth 100000 in
set_option maxHeartbeats 1000000 in
theorem spare_shape (K M O S : Nat) (v : Value) (l : List ByteArray) (w : World) (hK : 1 ≤ K ∧ K ≤ 20) (hM : 1 ≤ M ∧ M ≤ 20) (hO : 1 ≤ O ∧ O ≤ M) (hS : S ≤ 65535) (hl : l.length ≤ 8796093022208) (hsh : ¬ Shaped l K) (ht : TextsAt w v l) :
    Calls Try.prog 35 #[specV K M O S, v] w fun e w' => e = .returned (.tuple #[.slice none 0 0, .int .i64 3]) ∧ Below w.heap.size w w' := by
  have HT := hide ht
  have Hsh := hide hsh
  clear ht hsh
  go_enter Try.func35, Try.ntmps35
  go_wp2_with fail
  refine (wspare_shape K M O S v l _ hK hM hO hS hl Hsh.out (HT.out.on ((Below.refl _ _).alloc (Nat.le_refl _) _))).mono ?_
  rintro e w1 ⟨rfl, hb⟩
  have hb1 : Below w.heap.size w w1 := ((Below.refl _ _).alloc (Nat.le_refl _) _).trans (hb.mono (by simp))
  clear hb
  go_wp2
  go_ret2
  exact ⟨rfl, hb1⟩

set_option maxRecDepth 100000 in
set_option maxHeartbeats 1000000 in
theorem spare_ok (K M O S : Nat) (v : Value) (l : List ByteArray) (w : World) (hK : 1 ≤ K ∧ K ≤ 20) (hM : 1 ≤ M ∧ M ≤ 20) (hO : 1 ≤ O ∧ O ≤ M) (hS : S ≤ 65535) (hsh : Shaped l K) (ht : TextsAt w v l) :
    Calls Try.prog 35 #[specV K M O S, v] w fun e w' => ∃ v', e = .returned (.tuple #[v', .int .i64 0]) ∧ w'.ownsRow w.heap.size 9 1 v' M (textV (sparesOf K M O S l (l.getD 0 ByteArray.empty).size)) ∧ Below w.heap.size w w' := by
  have HT := hide ht
  have Hsh := hide hsh
  clear ht hsh
  go_enter Try.func35, Try.ntmps35
  go_wp2_with fail
  refine (wspare_ok K M O S v l _ hK hM hO hS Hsh.out (HT.out.on ((Below.refl _ _).alloc (Nat.le_refl _) _))).mono ?_
  rintro e w1 ⟨v', rfl, hown, hb⟩
  have hown1 := owns_base (base' := w.heap.size) hown (fun k e => by have := (hown.lt k e).1; simp at this; omega)
  clear hown
  have hb1 : Below w.heap.size w w1 := ((Below.refl _ _).alloc (Nat.le_refl _) _).trans (hb.mono (by simp))
  clear hb
  go_wp2
  go_ret2
  exact ⟨v', rfl, hown1, hb1⟩

end Go.Proofs.Ytnjaofkieajnlaa

/- What the document's own Word does: the data, and the spare pieces behind them. -/
namespace Go.Proofs.Ytnjaofkieajnlaa
open Go.RowKit

theorem owns_apart {w : World} {b1 b2 : Nat} {e1 e2 : TypeId} {v1 v2 : Value} {n1 n2 : Nat} {xs1 xs2 : List Value} (h1 : w.ownsRow b1 e1 1 v1 n1 xs1) (h2 : w.ownsRow b2 e2 1 v2 n2 xs2) (hne : e1 ≠ e2) : ∀ k, v1.ownBlock = some k → v2.ownBlock ≠ some k := by
  intro k k1 k2
  obtain ⟨c1, hc1⟩ := owns_block h1 k1
  obtain ⟨c2, hc2⟩ := owns_block h2 k2
  rw [hc1] at hc2
  simp at hc2
  exact hne hc2.2

/-- Rows of numbers stand while a row of texts grows. -/
theorem RowsAt.grown {w w' : World} {base g M b n : Nat} {rv : Nat → Value} {L : Nat → List Nat} {v : Value} {xs : List Value} (h : RowsAt w base g M rv L) (hv : w.ownsRow b 9 1 v n xs) (hg : w.grownBy w' v.ownBlock) : RowsAt w' base g M rv L :=
  ⟨h.row.of_block (hg.block g h.row.lt (fun e => owns_ne hv h.row (by decide) g e.symm rfl)), h.gb,
    fun i hi => owns_of_block (h.own i hi) (fun k e => hg.block k ((h.own i hi).lt k e).2 (fun e2 => owns_apart (h.own i hi) hv (by decide) k e e2.symm)), h.apart⟩

theorem owns_prefix {w : World} {base q n cap : Nat} {e : TypeId} {xs : List Value} (h : w.ownsRow base e 1 (.slice (some ⟨q, 0, none⟩) n cap) n xs) (m : Nat) (hm : m ≤ n) : w.ownsRow base e 1 (.slice (some ⟨q, 0, none⟩) m cap) m (xs.take m) := by
  have hl := h.1
  rcases h.2 with ⟨h0, _⟩ | ⟨g, c, cur, hv, hb, hg, hc, hmx, hs, ht⟩
  · simp at h0
  · simp at hv
    obtain ⟨rfl, rfl⟩ := hv
    refine ⟨by rw [List.length_take]; omega, Or.inr ⟨_, cap, cur, rfl, hb, hg, by omega, hmx, hs, ?_⟩⟩
    rw [← ht, List.take_take]
    congr 1
    omega

theorem owns_cap {w : World} {base q n cap : Nat} {e : TypeId} {xs : List Value} (h : w.ownsRow base e 1 (.slice (some ⟨q, 0, none⟩) n cap) n xs) : n ≤ cap ∧ cap ≤ maxLen := by
  rcases h.2 with ⟨h0, _⟩ | ⟨g, c, cur, hv, hb, hg, hc, hmx, hs, ht⟩
  · simp at h0
  · simp at hv
    obtain ⟨rfl, rfl⟩ := hv
    exact ⟨hc, hmx⟩

set_option maxRecDepth 100000 in
set_option maxHeartbeats 4000000 in
theorem rword_ok (K M O S : Nat) (v : Value) (l : List ByteArray) (w : World) (hK : 1 ≤ K ∧ K ≤ 20) (hM : 1 ≤ M ∧ M ≤ 20) (hO : 1 ≤ O ∧ O ≤ M) (hS : S ≤ 65535) (hsh : Shaped l K) (ht : TextsAt w v l) :
    Calls Try.prog 36 #[specV K M O S, v] w fun e w' => ∃ v', e = .returned v' ∧ w'.ownsRow w.heap.size 9 1 v' (K + M) (textV (knownTo l (rowOf K M O S) (l.getD 0 ByteArray.empty).size M)) ∧ Below w.heap.size w w' := by
  have hlK := hsh.1
  have Hsh := hide hsh
  obtain ⟨ao, cap, rfl, hcap, hc⟩ := ht
  obtain ⟨q, o, rfl, hq, _⟩ := hc 0 (by omega)
  have hcells := texts_cells hc rfl
  clear hsh hc
  subst hlK
  obtain ⟨i0, hi, hz0, hz1, hz2⟩ := info_parts Try.infoText
  generalize hr : (l.getD 0 ByteArray.empty).size = r at *
  have hr1 : 1 ≤ r ∧ r ≤ 16 := by have := (Hsh.out.2 0 (by omega)).2; rw [hr] at this; exact this
  have Hr := hide hr
  have hc2 : ∀ k, k < l.length → (w.alloc (specB l.length M O S)).cell? ⟨q, o + k, none⟩ = some (.string (l.getD k ByteArray.empty)) := fun k hk => by
    rw [World.cell?_alloc_lt _ _ _ (by exact hq)]; exact hcells k hk
  have HN := hide (texts_news hc2)
  clear hc2 hr hcells
  have hnil := World.ownsRow_nil (w.alloc (specB l.length M O S)) w.heap.size 9 1
  go_enter Try.func36, Try.ntmps36
  go_wp2_with (at_builtin; refine wpList_append_lies _ rfl (.tmp 10) (.tmp 11) 28 rfl w.heap.size 9 i0 (.string ByteArray.empty) 1 16 Try.underlying28 hi hz0 hz1 hz2 rfl (by decide) _ _ _ rfl hnil ⟨q, o, none⟩ l.length cap (textV l) rfl (by rw [textV_length]; omega) HN.out (textV_one l) (by omega) (by unfold maxLen; omega) (by omega) (by simp) (w.heap.size + 1) (by simp) ?_)
  intro g9 cap9 w1 hown9 hgr9 hat9 hlt9
  have hb1 : Below (w.alloc (specB l.length M O S)).heap.size (w.alloc (specB l.length M O S)) w1 := (Below.refl _ _).grown hgr9 (Nat.le_refl _) (fun k e => by simp [Value.ownBlock] at e)
  have hs1 := block_on (heap_alloc_new w (specB l.length M O S)) hb1
  have hbw : Below w.heap.size w w1 := ((Below.refl _ _).alloc (Nat.le_refl _) _).trans (hb1.mono (by simp))
  obtain ⟨c0, c1, c2, c3⟩ := spec_cellsI hs1
  clear hb1 hgr9 hat9
  go_wp2_with fail
  refine (rrows_ok l.length M O S _ hK hM hO hS).mono ?_
  rintro e w2 ⟨g, rv, rfl, hrw, hg, hb2⟩
  have hown2 := owns_below hown9 hb2
  have hbw2 := hbw.trans (hb2.mono hbw.size)
  have h0 : w2.ownsRow w.heap.size 9 1 (.slice (some ⟨g9, 0, none⟩) l.length cap9) (l.length + 0) (textV (knownTo l (rowOf l.length M O S) r 0)) := hown2
  clear c0 c1 c2 c3 hs1 hb2 hown9 hbw hown2
  go_wp2_with fail
  go_loopw [5, 16] (fun v5 t wr => ∃ i : Nat, i ≤ M ∧ t = .int .i64 i ∧ wr.ownsRow w.heap.size 9 1 v5 (l.length + i) (textV (knownTo l (rowOf l.length M O S) r i)) ∧ RowsAt wr (g + 1) g M rv (rowOf l.length M O S) ∧ Below w.heap.size w wr) (fun _ t _ => M - (intOf t).toNat)
  case atStart => exact ⟨0, Nat.zero_le _, rfl, h0, hrw, hbw2⟩
  case round =>
    clear h0 hrw hbw2
    obtain ⟨i, hiM, rfl, hown, hrw, hbw⟩ := hrel
    by_cases hlt : i < M
    · have hrc := hrw.cell hlt
      have hrl := rowOf_len l.length M O S i
      have hkl := knownTo_length l (rowOf l.length M O S) r i
      have hro := hrw.own i hlt
      rw [rowOf_head] at hro
      have hhl : (rowHead l.length M O S i ++ [l.length + i]).length = (rowHead l.length M O S i).length + 1 := by simp
      rw [rowOf_head, hhl] at hrl
      obtain ⟨q3, cap3, hrv, _, _⟩ := hro.form (by rw [hhl]; omega)
      rw [hhl] at hrv hro
      rw [hrv] at hro hrc
      have hpre := owns_prefix hro (rowHead l.length M O S i).length (by omega)
      rw [numsV_append, List.take_left' (numsV_length _)] at hpre
      have hcp := owns_cap hro
      unfold maxLen at hcp
      clear hro hrv hhl
      go_wp2_with fail
      refine (total_any _ _ (knownTo l (rowOf l.length M O S) r i) (rowHead l.length M O S i) r _ _ (by omega) (by omega) (by omega) (by omega) (knownTo_size (fun x hx => ?hx) i) (fun j hj => by have := rowHead_lt l.length M O S i j hj; omega) hpre (owns_texts hown hkl.symm)).mono ?_
      case hx => rw [← Hr.out]; exact Hsh.out.sizes x hx
      rintro e w4 ⟨rfl, hb4⟩
      have hown4 := owns_below hown hb4
      have hrw4 := hrw.below hb4
      have hbw4 := hbw.trans (hb4.mono hbw.size)
      have hks : knownTo l (rowOf l.length M O S) r (i + 1) = knownTo l (rowOf l.length M O S) r i ++ [sumB (knownTo l (rowOf l.length M O S) r i) (rowHead l.length M O S i) r] := by
        rw [← sumB_head hkl]; rfl
      have Hks := hide hks
      generalize hkn : knownTo l (rowOf l.length M O S) r i = kn at *
      generalize htt : sumB kn (rowHead l.length M O S i) r = tt at *
      have hw4 := hbw4.size
      clear hb4 hrw hrc hks hkn htt hown hbw hpre
      go_wp2_with (first | (at_builtin; refine wpList_append_lies _ rfl (.tmp 28) (.tmp 30) 28 rfl w.heap.size 9 i0 (.string ByteArray.empty) 1 16 Try.underlying28 hi hz0 hz1 hz2 rfl (by decide) _ _ _ rfl (hown4.alloc _) ⟨w4.heap.size, 0, none⟩ 1 1 [.string tt] rfl rfl (one_news _ _ _) (one_oneCell rfl) (by decide) (by unfold maxLen; omega) (by omega) (by simp; omega) (w4.heap.size + 1) (by simp) ?_))
      intro g5 cap5 w5 hown5 hgr5 hat5 hlt5
      have hrw5 := hrw4.grown hown4 (grownBy_of_alloc hgr5)
      have hb5 : Below w.heap.size w w5 := (((Chg.of_below hbw4 (fun _ => False)).alloc _).grown hgr5 (fun k e => Or.inl (hown4.lt k e).1)).below (fun _ _ f => f)
      clear hrw4 hown4 hbw4 hgr5 hat5
      go_wp2
      go_roundw
      case rel => exact ⟨i + 1, by omega, by go_num, by rw [Hks.out, textV_append]; exact hown5, hrw5, hb5⟩
      case measure => simp [intOf]; omega
    · have hiM2 : i = M := by omega
      subst hiM2
      go_wp2
      go_ret
      exact ⟨_, rfl, hown, hbw⟩

end Go.Proofs.Ytnjaofkieajnlaa
