/- Fits: the program's and the document's own. -/
import Derived.Test.YtnjaofkieajnlaaGreatSpared
namespace Go.Proofs.YtnjaofkieajnlaaGreat
open Go.RowKit

/-- In each row the pieces sum to noughts. -/
def Fit (K M O S : Nat) (l : List ByteArray) (size : Nat) : Prop := ∀ i, i < M → sumB l (rowOf K M O S i) size = zeroB size

/-- The answer tells whether p, with no error. -/
def Tells2 (p : Prop) (e : Ending) : Prop := ∃ b, e = .returned (.tuple #[.bool b, .int .i64 0]) ∧ (p → b = true) ∧ (¬ p → b = false)

theorem beq_bytes {a b : ByteArray} (h : a ≠ b) : (a.toList == b.toList) = false := by
  rw [ByteArray.toList_eq, ByteArray.toList_eq]
  apply beq_eq_false_iff_ne.2
  intro e
  apply h
  cases a; cases b
  congr
  exact Array.toList_inj.1 e

set_option maxRecDepth 100000 in
set_option maxHeartbeats 1000000 in
theorem wfits_bad (K M O S : Int) (v : Value) (w : World) (hmay : mayB K M O S = false) :
    Calls Tryz.prog 110 #[specV K M O S, v] w fun e w' => e = .returned (.tuple #[.bool false, .int .i64 1]) ∧ Below w.heap.size w w' := by
  go_enter Tryz.func110, Tryz.ntmps110
  go_wp2_with fail
  refine (wrows_bad K M O S _ hmay).mono ?_
  rintro e w1 ⟨rfl, hb⟩
  have hb1 : Below w.heap.size w w1 := ((Below.refl _ _).alloc (Nat.le_refl _) _).trans (hb.mono (by simp))
  clear hb
  go_wp2
  go_ret2
  exact ⟨rfl, hb1⟩

set_option maxRecDepth 100000 in
set_option maxHeartbeats 1000000 in
theorem wfits_shape (K M O S : Nat) (v : Value) (l : List ByteArray) (w : World) (hK : 1 ≤ K ∧ K ≤ 20) (hM : 1 ≤ M ∧ M ≤ 20) (hO : 1 ≤ O ∧ O ≤ M) (hS : S ≤ 65535) (hl : l.length ≤ 8796093022208) (hsh : ¬ Shaped l (K + M)) (ht : TextsAt w v l) :
    Calls Tryz.prog 110 #[specV K M O S, v] w fun e w' => e = .returned (.tuple #[.bool false, .int .i64 3]) ∧ Below w.heap.size w w' := by
  have HT := hide ht
  have Hsh := hide hsh
  clear ht hsh
  go_enter Tryz.func110, Tryz.ntmps110
  go_wp2_with fail
  refine (wrows_ok K M O S _ hK hM hO hS).mono ?_
  rintro e w1 ⟨g, rv, rfl, hr, hg, hb⟩
  have hs1 := block_on (heap_alloc_new w _) hb
  have hb1 : Below w.heap.size w w1 := ((Below.refl _ _).alloc (Nat.le_refl _) _).trans (hb.mono (by simp))
  obtain ⟨c0, c1, c2, c3⟩ := spec_cellsI hs1
  clear hb hr hg
  go_wp2_with fail
  rw [show (K : Int) + (M : Int) = ((K + M : Nat) : Int) from by omega]
  refine (sizeOf_any _ l (K + M) _ (by omega) (by omega) (HT.out.on hb1)).mono ?_
  rintro e w2 ⟨⟨r, rfl, _, hno⟩, rfl⟩
  obtain rfl := hno Hsh.out
  go_wp2
  go_ret2
  exact ⟨rfl, hb1⟩

set_option maxRecDepth 100000 in
set_option maxHeartbeats 2000000 in
theorem wfits_ok (K M O S : Nat) (v : Value) (l : List ByteArray) (w : World) (hK : 1 ≤ K ∧ K ≤ 20) (hM : 1 ≤ M ∧ M ≤ 20) (hO : 1 ≤ O ∧ O ≤ M) (hS : S ≤ 65535) (hsh : Shaped l (K + M)) (ht : TextsAt w v l) :
    Calls Tryz.prog 110 #[specV K M O S, v] w fun e w' => Tells2 (Fit K M O S l (l.getD 0 ByteArray.empty).size) e ∧ Below w.heap.size w w' := by
  have hlK := hsh.1
  have HT := hide ht
  have Hsh := hide hsh
  have Hl := hide hlK
  clear ht hsh hlK
  go_enter Tryz.func110, Tryz.ntmps110
  go_wp2_with fail
  refine (wrows_ok K M O S _ hK hM hO hS).mono ?_
  rintro e w1 ⟨g, rv, rfl, hr, hg, hb⟩
  have hs1 := block_on (heap_alloc_new w _) hb
  have hb1 : Below w.heap.size w w1 := ((Below.refl _ _).alloc (Nat.le_refl _) _).trans (hb.mono (by simp))
  obtain ⟨c0, c1, c2, c3⟩ := spec_cellsI hs1
  clear hb hg
  go_wp2_with fail
  rw [show (K : Int) + (M : Int) = ((K + M : Nat) : Int) from by omega]
  refine (sizeOf_any _ l (K + M) _ (by omega) (by rw [Hl.out]; omega) (HT.out.on hb1)).mono ?_
  rintro e w2 ⟨⟨r, rfl, hyes, _⟩, rfl⟩
  obtain ⟨hre, hr1, hr16⟩ := hyes Hsh.out
  have hr0 : ((r : Int) == 0) = false := by simp; omega
  have Hre := hide hre
  clear hyes hre
  go_wp2_with fail
  refine (sum_any (.slice none 0 0) (.slice none 0 0) [] [] r 0 _ (by simp) (fun j hj => by simp at hj) (by omega) (fun x hx => by simp at hx) (World.ownsRow_nil _ _ _ _) ⟨none, 0, rfl, Nat.le_refl _, fun k hk => by simp at hk⟩).mono ?_
  rintro e w3 ⟨rfl, hb3⟩
  have hb4 := hb1.trans (hb3.mono hb1.size)
  have hr3 := hr.below hb3
  rw [show sumB [] [] r = zeroB r from rfl]
  clear c0 c1 c2 c3 hs1 hb3 hr hb1
  go_wp2_with fail
  go_loopw [34] (fun t wr => ∃ i : Nat, i ≤ M ∧ t = .int .i64 i ∧ (∀ j, j < i → sumB l (rowOf K M O S j) r = zeroB r) ∧ Below w3.heap.size w3 wr) (fun t _ => M - (intOf t).toNat)
  case atStart => exact ⟨0, Nat.zero_le _, rfl, fun j hj => by omega, Below.refl _ _⟩
  case round =>
    obtain ⟨i, hiM, rfl, hall, hbel⟩ := hrel
    have Hall := hide hall
    clear hall
    have hbw := hb4.trans (hbel.mono hb4.size)
    by_cases hlt : i < M
    · have hrr := hr3.below hbel
      have hrc := hrr.cell hlt
      have hrl := rowOf_len K M O S i
      go_wp2_with fail
      refine (sum_any v (rv i) l (rowOf K M O S i) r _ _ (by omega) (fun j hj => by have := rowOf_lt K M O S i j hj; omega) (by omega) (fun x hx => ?hx) (hrr.own i hlt) (HT.out.on hbw)).mono ?_
      case hx => rw [Hre.out]; exact Hsh.out.sizes x hx
      rintro e w5 ⟨rfl, hb5⟩
      have hb6 := hbel.trans (hb5.mono hbel.size)
      generalize htt : sumB l (rowOf K M O S i) r = tt at *
      have Ht := hide htt
      clear htt hrr hrc hb5
      by_cases he : tt = zeroB r
      · subst he
        clear hbel hbw
        go_wp2
        go_roundw
        case rel =>
          refine ⟨i + 1, by omega, by go_num, fun j hj => ?_, hb6⟩
          by_cases e : j = i
          · subst e; exact Ht.out
          · exact Hall.out j (by omega)
        case measure => simp [intOf]; omega
      · have hneq := beq_bytes he
        have hno : ¬ Fit K M O S l (l.getD 0 ByteArray.empty).size := fun h => he (by rw [← Ht.out]; have := h i hlt; rw [← Hre.out] at this; exact this)
        have Hno := hide hno
        have hb7 := hb4.trans (hb6.mono hb4.size)
        clear he hno
        go_wp2
        go_ret2
        exact ⟨⟨false, rfl, fun h => absurd h Hno.out, fun _ => rfl⟩, hb7⟩
    · go_wp2
      go_ret2
      refine ⟨⟨true, rfl, fun _ => rfl, fun h => absurd (fun j hj => ?_) h⟩, hbw⟩
      rw [← Hre.out]
      exact Hall.out j (by omega)

set_option maxRecDepth 100000 in
set_option maxHeartbeats 2000000 in
theorem rfits_ok (K M O S : Nat) (v : Value) (l : List ByteArray) (w : World) (hK : 1 ≤ K ∧ K ≤ 20) (hM : 1 ≤ M ∧ M ≤ 20) (hO : 1 ≤ O ∧ O ≤ M) (hS : S ≤ 65535) (hsh : Shaped l (K + M)) (ht : TextsAt w v l) :
    Calls Tryz.prog 82 #[specV K M O S, v] w fun e w' => Tells (Fit K M O S l (l.getD 0 ByteArray.empty).size) e ∧ Below w.heap.size w w' := by
  have hlK := hsh.1
  have HT := hide ht
  have Hsh := hide hsh
  have hr1 := (hsh.2 0 (by omega)).2
  generalize hr : (l.getD 0 ByteArray.empty).size = r at *
  have Hr := hide hr
  clear ht hsh hr
  go_enter Tryz.func82, Tryz.ntmps82
  go_wp2_with fail
  refine (rrows_ok K M O S _ hK hM hO hS).mono ?_
  rintro e w1 ⟨g, rv, rfl, hr3, hg, hb⟩
  have hb1 : Below w.heap.size w w1 := ((Below.refl _ _).alloc (Nat.le_refl _) _).trans (hb.mono (by simp))
  clear hb hg
  go_wp2_with fail
  go_loopw [11] (fun t wr => ∃ i : Nat, i ≤ M ∧ t = .int .i64 i ∧ (∀ j, j < i → sumB l (rowOf K M O S j) r = zeroB r) ∧ Below w1.heap.size w1 wr) (fun t _ => M - (intOf t).toNat)
  case atStart => exact ⟨0, Nat.zero_le _, rfl, fun j hj => by omega, Below.refl _ _⟩
  case round =>
    obtain ⟨i, hiM, rfl, hall, hbel⟩ := hrel
    have Hall := hide hall
    clear hall
    have hbw := hb1.trans (hbel.mono hb1.size)
    by_cases hlt : i < M
    · have hrr := hr3.below hbel
      have hrc := hrr.cell hlt
      have hrl := rowOf_len K M O S i
      go_wp2_with fail
      refine (total_any v (rv i) l (rowOf K M O S i) r _ _ (by omega) (by omega) (by omega) (by omega) (fun x hx => ?hx) (fun j hj => by have := rowOf_lt K M O S i j hj; omega) (hrr.own i hlt) (HT.out.on hbw)).mono ?_
      case hx => rw [← Hr.out]; exact Hsh.out.sizes x hx
      rintro e w5 ⟨rfl, hb5⟩
      have hb6 := hbel.trans (hb5.mono hbel.size)
      have hts : (sumB l (rowOf K M O S i) r).size = r := sumB_size (fun x hx => by rw [← Hr.out]; exact Hsh.out.sizes x hx) _
      generalize htt : sumB l (rowOf K M O S i) r = tt at *
      have Ht := hide htt
      clear htt hrr hrc hb5
      go_wp2_with fail
      refine (noughts_any r _ (by omega)).mono ?_
      rintro e w6 ⟨rfl, rfl⟩
      by_cases he : tt = zeroB r
      · subst he
        clear hbel hbw hts
        go_wp2
        go_roundw
        case rel =>
          refine ⟨i + 1, by omega, by go_num, fun j hj => ?_, hb6⟩
          by_cases e : j = i
          · subst e; exact Ht.out
          · exact Hall.out j (by omega)
        case measure => simp [intOf]; omega
      · have hneq := beq_bytes he
        have hno : ¬ Fit K M O S l r := fun h => he (by rw [← Ht.out]; exact h i hlt)
        have Hno := hide hno
        have hb7 := hb1.trans (hb6.mono hb1.size)
        clear he hno hts
        go_wp2
        go_ret
        exact ⟨⟨false, rfl, fun h => absurd h Hno.out, fun _ => rfl⟩, hb7⟩
    · go_wp2
      go_ret
      exact ⟨⟨true, rfl, fun _ => rfl, fun h => absurd (fun j hj => Hall.out j (by omega)) h⟩, hbw⟩

end Go.Proofs.YtnjaofkieajnlaaGreat
