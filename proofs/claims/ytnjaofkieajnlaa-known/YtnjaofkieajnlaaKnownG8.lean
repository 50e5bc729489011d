/- Texts of the proof, part 9. -/
import Derived.Laws.IdiomStrings
import Derived.Test.YtnjaofkieajnlaaKnownG1
import Derived.Test.YtnjaofkieajnlaaKnownG7

/- Spared: for every specification and every list of texts the program's Spare answers as the document asks, and leaves what is handed in alone. -/
namespace Go.Proofs.Ytnjaofkieajnlaa
open Go.RowKit

theorem owns_suffix {w : World} {base g n cap K : Nat} {kn : List ByteArray} (h : w.ownsRow base 9 1 (.slice (some ⟨g, 0, none⟩) n cap) n (textV kn)) (hn : n = kn.length) (hK : K ≤ n) :
    TextsAt w (.slice (some ⟨g, K, none⟩) (n - K) (cap - K)) (kn.drop K) := by
  obtain ⟨ao, c, hv, hc, hcell⟩ := owns_texts h hn
  simp at hv
  obtain ⟨rfl, rfl, rfl⟩ := hv
  refine ⟨_, _, by rw [List.length_drop], by rw [List.length_drop]; omega, fun k hk => ?_⟩
  rw [List.length_drop] at hk
  obtain ⟨q, o, he, hq, hcl⟩ := hcell (K + k) (by omega)
  simp at he
  obtain ⟨rfl, rfl⟩ := he
  refine ⟨g, K, rfl, hq, ?_⟩
  rw [Nat.zero_add] at hcl
  rw [hcl]
  simp [List.getD_eq_getElem?_getD, List.getElem?_drop]

theorem TextsAt.chg {w w1 : World} {v : Value} {l : List ByteArray} (h : TextsAt w v l) (hb : Chg (fun _ => False) w w1) : TextsAt w1 v l := h.on (hb.below (fun _ _ x => x))

theorem HandedAt.on {w w1 : World} {g : Nat} {l : List ByteArray} (h : HandedAt w g l) (hb : Below w.heap.size w w1) : HandedAt w1 g l := h.of_block (hb.block g h.lt)

theorem Below.chg {w w1 w2 : World} {B : Nat} (h : Below B w w1) (hB : B ≤ w1.heap.size) (hc : Chg (fun _ => False) w1 w2) : Below B w w2 := h.trans ((hc.below (fun _ _ x => x)).mono hB)

set_option maxRecDepth 100000 in
set_option maxHeartbeats 2000000 in
theorem lawSpare_bad (K M O S : Int) (v : Value) (l : List ByteArray) (w : World) (hl : l.length ≤ 8796093022208) (hmay : mayB K M O S = false) (ht : TextsAt w v l) :
    Calls Try.prog 12 #[specV K M O S, v] w fun e w' => e = .returned (.tuple #[.slice none 0 0, .bool true]) ∧ Below w.heap.size w w' := by
  have HT := hide ht
  clear ht
  go_enter Try.func12, Try.ntmps12
  go_wp2_with fail
  refine (handed_any v l _ hl (HT.out.on ((Below.refl _ _).alloc (Nat.le_refl _) _))).mono ?_
  rintro e w1 ⟨g, rfl, hh, hg, hb⟩
  have hs1 := block_on (heap_alloc_new w _) hb
  have hb1 : Below w.heap.size w w1 := ((Below.refl _ _).alloc (Nat.le_refl _) _).trans (hb.mono (by simp))
  obtain ⟨c0, c1, c2, c3⟩ := spec_cellsI hs1
  clear hb hg
  go_wp2_with fail
  refine (spare_bad K M O S _ _ hmay).mono ?_
  rintro e w2 ⟨rfl, hb⟩
  have hs2 := block_on hs1 hb
  have hh2 := hh.on hb
  have hb2 := hb1.trans (hb.mono hb1.size)
  clear c0 c1 c2 c3 hs1 hb1 hb hh
  go_wp2_with fail
  refine (still_yes v l g _ hl hh2 (HT.out.on hb2)).mono ?_
  rintro e w3 ⟨rfl, hcg⟩
  have hb := hcg.below (fun _ _ x => x)
  have hs3 := block_on hs2 hb
  have hb3 := hb2.trans (hb.mono hb2.size)
  obtain ⟨c0, c1, c2, c3⟩ := spec_cellsI hs3
  clear hcg hb hs2 hb2 hh2
  go_wp2_with fail
  refine (may_below _ _ _ _ _).mono ?_
  rintro e w4 ⟨rfl, hb⟩
  rw [hmay]
  have hb4 := hb3.trans (hb.mono hb3.size)
  clear c0 c1 c2 c3 hb hb3 hs3
  go_wp2
  go_ret2
  exact ⟨rfl, hb4⟩

set_option maxRecDepth 100000 in
set_option maxHeartbeats 2000000 in
theorem lawSpare_shape (K M O S : Nat) (v : Value) (l : List ByteArray) (w : World) (hK : 1 ≤ K ∧ K ≤ 20) (hM : 1 ≤ M ∧ M ≤ 20) (hO : 1 ≤ O ∧ O ≤ M) (hS : S ≤ 65535) (hl : l.length ≤ 8796093022208) (hsh : ¬ Shaped l K) (ht : TextsAt w v l) :
    Calls Try.prog 12 #[specV K M O S, v] w fun e w' => e = .returned (.tuple #[.slice none 0 0, .bool true]) ∧ Below w.heap.size w w' := by
  have hmay : mayB K M O S = true := by simp [mayB]; omega
  have HT := hide ht
  have Hsh := hide hsh
  clear ht hsh
  go_enter Try.func12, Try.ntmps12
  go_wp2_with fail
  refine (handed_any v l _ hl (HT.out.on ((Below.refl _ _).alloc (Nat.le_refl _) _))).mono ?_
  rintro e w1 ⟨g, rfl, hh, hg, hb⟩
  have hs1 := block_on (heap_alloc_new w _) hb
  have hb1 : Below w.heap.size w w1 := ((Below.refl _ _).alloc (Nat.le_refl _) _).trans (hb.mono (by simp))
  obtain ⟨c0, c1, c2, c3⟩ := spec_cellsI hs1
  clear hb hg
  go_wp2_with fail
  refine (spare_shape K M O S _ l _ hK hM hO hS hl Hsh.out hh.texts).mono ?_
  rintro e w2 ⟨rfl, hb⟩
  have hs2 := block_on hs1 hb
  have hh2 := hh.on hb
  have hb2 := hb1.trans (hb.mono hb1.size)
  clear c0 c1 c2 c3 hs1 hb1 hb hh
  go_wp2_with fail
  refine (still_yes v l g _ hl hh2 (HT.out.on hb2)).mono ?_
  rintro e w3 ⟨rfl, hcg⟩
  have hb := hcg.below (fun _ _ x => x)
  have hs3 := block_on hs2 hb
  have hb3 := hb2.trans (hb.mono hb2.size)
  obtain ⟨c0, c1, c2, c3⟩ := spec_cellsI hs3
  clear hcg hb hs2 hb2 hh2
  go_wp2_with fail
  refine (may_below _ _ _ _ _).mono ?_
  rintro e w4 ⟨rfl, hb⟩
  rw [hmay]
  have hs4 := block_on hs3 hb
  have hb4 := hb3.trans (hb.mono hb3.size)
  clear c0 c1 c2 c3 hb hb3 hs3
  obtain ⟨c0, c1, c2, c3⟩ := spec_cellsI hs4
  go_wp2_with fail
  refine (shaped_any v l K _ (by omega) hl (HT.out.on hb4)).mono ?_
  rintro e w5 ⟨⟨b, rfl, _, hno⟩, rfl⟩
  obtain rfl := hno Hsh.out
  go_wp2
  go_ret2
  exact ⟨rfl, hb4⟩

set_option maxRecDepth 100000 in
set_option maxHeartbeats 2000000 in
theorem lawSpare_ok (K M O S : Nat) (v : Value) (l : List ByteArray) (w : World) (hK : 1 ≤ K ∧ K ≤ 20) (hM : 1 ≤ M ∧ M ≤ 20) (hO : 1 ≤ O ∧ O ≤ M) (hS : S ≤ 65535) (hsh : Shaped l K) (ht : TextsAt w v l) :
    Calls Try.prog 12 #[specV K M O S, v] w fun e w' => ∃ v', e = .returned (.tuple #[v', .bool true]) ∧ w'.ownsRow w.heap.size 9 1 v' M (textV (sparesOf K M O S l (l.getD 0 ByteArray.empty).size)) ∧ Below w.heap.size w w' := by
  have hmay : mayB K M O S = true := by simp [mayB]; omega
  have hlK := hsh.1
  have hl : l.length ≤ 8796093022208 := by omega
  have HT := hide ht
  have Hsh := hide hsh
  have HlK := hide hlK
  clear ht hsh hlK
  go_enter Try.func12, Try.ntmps12
  go_wp2_with fail
  refine (handed_any v l _ hl (HT.out.on ((Below.refl _ _).alloc (Nat.le_refl _) _))).mono ?_
  rintro e w1 ⟨g, rfl, hh, hg, hb⟩
  have hs1 := block_on (heap_alloc_new w _) hb
  have hb1 : Below w.heap.size w w1 := ((Below.refl _ _).alloc (Nat.le_refl _) _).trans (hb.mono (by simp))
  obtain ⟨c0, c1, c2, c3⟩ := spec_cellsI hs1
  clear hb hg
  go_wp2_with fail
  refine (spare_ok K M O S _ l _ hK hM hO hS Hsh.out hh.texts).mono ?_
  rintro e w2 ⟨v', rfl, hv, hb⟩
  have hs2 := block_on hs1 hb
  have hh2 := hh.on hb
  have hb2 := hb1.trans (hb.mono hb1.size)
  have hv2 := owns_base (base' := w.heap.size) hv (fun k e => by have := (hv.lt k e).1; have := hb1.size; omega)
  clear c0 c1 c2 c3 hs1 hb1 hb hh hv
  go_wp2_with fail
  refine (still_yes v l g _ hl hh2 (HT.out.on hb2)).mono ?_
  rintro e w3 ⟨rfl, hcg⟩
  have hb := hcg.below (fun _ _ x => x)
  have hs3 := block_on hs2 hb
  have hb3 := hb2.trans (hb.mono hb2.size)
  have hv3 := owns_below hv2 hb
  obtain ⟨c0, c1, c2, c3⟩ := spec_cellsI hs3
  clear hcg hb hs2 hb2 hh2 hv2
  go_wp2_with fail
  refine (may_below _ _ _ _ _).mono ?_
  rintro e w4 ⟨rfl, hb⟩
  rw [hmay]
  have hs4 := block_on hs3 hb
  have hb4 := hb3.trans (hb.mono hb3.size)
  have hv4 := owns_below hv3 hb
  clear c0 c1 c2 c3 hb hb3 hs3 hv3
  obtain ⟨c0, c1, c2, c3⟩ := spec_cellsI hs4
  go_wp2_with fail
  refine (shaped_any v l K _ (by omega) hl (HT.out.on hb4)).mono ?_
  rintro e w5 ⟨⟨b, rfl, hyes, _⟩, rfl⟩
  obtain rfl := hyes Hsh.out
  go_wp2_with fail
  refine (rword_ok K M O S v l _ hK hM hO hS Hsh.out (HT.out.on hb4)).mono ?_
  rintro e w6 ⟨vw, rfl, hw, hb⟩
  obtain ⟨gw, capw, rfl, _, _⟩ := hw.form (by omega)
  have hcp := owns_cap hw
  unfold maxLen at hcp
  have hs6 := block_on hs4 hb
  have hb6 := hb4.trans (hb.mono hb4.size)
  have hv6 := owns_below hv4 hb
  have hsuf := owns_suffix (K := K) hw (by rw [knownTo_length, HlK.out]) (by omega)
  have hsl : K + M - K = M := by omega
  rw [hsl] at hsuf
  have hsp : (knownTo l (rowOf K M O S) (l.getD 0 ByteArray.empty).size M).drop K = sparesOf K M O S l (l.getD 0 ByteArray.empty).size := by unfold sparesOf; rw [HlK.out]
  rw [hsp] at hsuf
  have hne : ¬ capw = K := by omega
  have hnk : ¬ capw - K = 0 := by omega
  clear c0 c1 c2 c3 hb hb4 hs4 hv4 hw hsp
  obtain ⟨c0, c1, c2, c3⟩ := spec_cellsI hs6
  go_wp2_with fail
  refine (sameTexts_yes _ _ _ _ (by rw [sparesOf_length]; omega) (owns_texts hv6 (by rw [sparesOf_length])) hsuf).mono ?_
  rintro e w7 ⟨rfl, hcg⟩
  have hb7 := Below.chg hb6 hb6.size hcg
  have hv7 := owns_below hv6 (hcg.below (fun _ _ x => x))
  clear c0 c1 c2 c3 hcg hb6 hv6 hsuf hs6
  go_wp2
  go_ret2
  exact ⟨v', rfl, hv7, hb7⟩

set_option maxRecDepth 100000 in
set_option maxHeartbeats 2000000 in
theorem spared_any (K M O S : Int) (v : Value) (l : List ByteArray) (w : World) (hl : l.length ≤ 8796093022208) (ht : TextsAt w v l) :
    Calls Try.prog 4 #[specV K M O S, v] w fun e w' => e = .returned (.bool true) ∧ Below w.heap.size w w' := by
  have HT := hide ht
  clear ht
  cases hmay : mayB K M O S
  · go_enter Try.func4, Try.ntmps4
    go_wp2_with fail
    refine (lawSpare_bad _ _ _ _ v l _ hl hmay (HT.out.on ((Below.refl _ _).alloc (Nat.le_refl _) _))).mono ?_
    rintro e w1 ⟨rfl, hb⟩
    have hb1 : Below w.heap.size w w1 := ((Below.refl _ _).alloc (Nat.le_refl _) _).trans (hb.mono (by simp))
    clear hb
    go_wp2
    go_ret
    exact ⟨rfl, hb1⟩
  · obtain ⟨k, m, o, s, rfl, rfl, rfl, rfl, hK, hM, hO, hS⟩ := may_nats hmay
    by_cases hsh : Shaped l k
    · have Hsh := hide hsh
      clear hsh
      go_enter Try.func4, Try.ntmps4
      go_wp2_with fail
      refine (lawSpare_ok k m o s v l _ hK hM hO hS Hsh.out (HT.out.on ((Below.refl _ _).alloc (Nat.le_refl _) _))).mono ?_
      rintro e w1 ⟨v', rfl, _, hb⟩
      have hb1 : Below w.heap.size w w1 := ((Below.refl _ _).alloc (Nat.le_refl _) _).trans (hb.mono (by simp))
      clear hb
      go_wp2
      go_ret
      exact ⟨rfl, hb1⟩
    · have Hsh := hide hsh
      clear hsh
      go_enter Try.func4, Try.ntmps4
      go_wp2_with fail
      refine (lawSpare_shape k m o s v l _ hK hM hO hS hl Hsh.out (HT.out.on ((Below.refl _ _).alloc (Nat.le_refl _) _))).mono ?_
      rintro e w1 ⟨rfl, hb⟩
      have hb1 : Below w.heap.size w w1 := ((Below.refl _ _).alloc (Nat.le_refl _) _).trans (hb.mono (by simp))
      clear hb
      go_wp2
      go_ret
      exact ⟨rfl, hb1⟩

end Go.Proofs.Ytnjaofkieajnlaa

/- Fits: the program's and the document's own. -/
namespace Go.Proofs.Ytnjaofkieajnlaa
open Go.RowKit

/-- In each row the pieces sum to noughts. -/
def Fit (K M O S : Nat) (l : List ByteArray) (size : Nat) : Prop := ∀ i, i < M → sumB l (rowOf K M O S i) size = zeroB size

/-- The answer tells whether p, with no error. -/
def Tells2 (p : Prop) (e : Ending) : Prop := ∃ b, e = .returned (.tuple #[.bool b, .int .i64 0]) ∧ (p → b = true) ∧ (¬ p → b = false)

theorem beq_bytes {a b : ByteArray} (h : a ≠ b) : (a.toList == b.toList) = false := by
  rw [ByteArray.toList_eq, ByteArray.toList_eq]
  apply beq_eq_false_iff_ne.2
  intro e
  apply h
  cases a; cases b
  congr
  exact Array.toList_inj.1 e

set_option maxRecDepth 100000 in
set_option maxHeartbeats 1000000 in
theorem wfits_bad (K M O S : Int) (v : Value) (w : World) (hmay : mayB K M O S = false) :
    Calls Try.prog 38 #[specV K M O S, v] w fun e w' => e = .returned (.tuple #[.bool false, .int .i64 1]) ∧ Below w.heap.size w w' := by
  go_enter Try.func38, Try.ntmps38
  go_wp2_with fail
  refine (wrows_bad K M O S _ hmay).mono ?_
  rintro e w1 ⟨rfl, hb⟩
  have hb1 : Below w.heap.size w w1 := ((Below.refl _ _).alloc (Nat.le_refl _) _).trans (hb.mono (by simp))
  clear hb
  go_wp2
  go_ret2
  exact ⟨rfl, hb1⟩

set_option maxRecDepth 100000 in
set_option maxHeartbeats 1000000 in
theorem wfits_shape (K M O S : Nat) (v : Value) (l : List ByteArray) (w : World) (hK : 1 ≤ K ∧ K ≤ 20) (hM : 1 ≤ M ∧ M ≤ 20) (hO : 1 ≤ O ∧ O ≤ M) (hS : S ≤ 65535) (hl : l.length ≤ 8796093022208) (hsh : ¬ Shaped l (K + M)) (ht : TextsAt w v l) :
    Calls Try.prog 38 #[specV K M O S, v] w fun e w' => e = .returned (.tuple #[.bool false, .int .i64 3]) ∧ Below w.heap.size w w' := by
  have HT := hide ht
  have Hsh := hide hsh
  clear ht hsh
  go_enter Try.func38, Try.ntmps38
  go_wp2_with fail
  refine (wrows_ok K M O S _ hK hM hO hS).mono ?_
  rintro e w1 ⟨g, rv, rfl, hr, hg, hb⟩
  have hs1 := block_on (heap_alloc_new w _) hb
  have hb1 : Below w.heap.size w w1 := ((Below.refl _ _).alloc (Nat.le_refl _) _).trans (hb.mono (by simp))
  obtain ⟨c0, c1, c2, c3⟩ := spec_cellsI hs1
  clear hb hr hg
  go_wp2_with fail
  rw [show (K : Int) + (M : Int) = ((K + M : Nat) : Int) from by omega]
  refine (sizeOf_any _ l (K + M) _ (by omega) (by omega) (HT.out.on hb1)).mono ?_
  rintro e w2 ⟨⟨r, rfl, _, hno⟩, rfl⟩
  obtain rfl := hno Hsh.out
  go_wp2
  go_ret2
  exact ⟨rfl, hb1⟩

set_option maxRecDepth 100000 in
set_option maxHeartbeats 2000000 in
theorem wfits_ok (K M O S : Nat) (v : Value) (l : List ByteArray) (w : World) (hK : 1 ≤ K ∧ K ≤ 20) (hM : 1 ≤ M ∧ M ≤ 20) (hO : 1 ≤ O ∧ O ≤ M) (hS : S ≤ 65535) (hsh : Shaped l (K + M)) (ht : TextsAt w v l) :
    Calls Try.prog 38 #[specV K M O S, v] w fun e w' => Tells2 (Fit K M O S l (l.getD 0 ByteArray.empty).size) e ∧ Below w.heap.size w w' := by
  have hlK := hsh.1
  have HT := hide ht
  have Hsh := hide hsh
  have Hl := hide hlK
  clear ht hsh hlK
  go_enter Try.func38, Try.ntmps38
  go_wp2_with fail
  refine (wrows_ok K M O S _ hK hM hO hS).mono ?_
  rintro e w1 ⟨g, rv, rfl, hr, hg, hb⟩
  have hs1 := block_on (heap_alloc_new w _) hb
  have hb1 : Below w.heap.size w w1 := ((Below.refl _ _).alloc (Nat.le_refl _) _).trans (hb.mono (by simp))
  obtain ⟨c0, c1, c2, c3⟩ := spec_cellsI hs1
  clear hb hg
  go_wp2_with fail
  rw [show (K : Int) + (M : Int) = ((K + M : Nat) : Int) from by omega]
  refine (sizeOf_any _ l (K + M) _ (by omega) (by rw [Hl.out]; omega) (HT.out.on hb1)).mono ?_
  rintro e w2 ⟨⟨r, rfl, hyes, _⟩, rfl⟩
  obtain ⟨hre, hr1, hr16⟩ := hyes Hsh.out
  have hr0 : ((r : Int) == 0) = false := by simp; omega
  have Hre := hide hre
  clear hyes hre
  go_wp2_with fail
  refine (sum_any (.slice none 0 0) (.slice none 0 0) [] [] r 0 _ (by simp) (fun j hj => by simp at hj) (by omega) (fun x hx => by simp at hx) (World.ownsRow_nil _ _ _ _) ⟨none, 0, rfl, Nat.le_refl _, fun k hk => by simp at hk⟩).mono ?_
  rintro e w3 ⟨rfl, hb3⟩
  have hb4 := hb1.trans (hb3.mono hb1.size)
  have hr3 := hr.below hb3
  rw [show sumB [] [] r = zeroB r from rfl]
  clear c0 c1 c2 c3 hs1 hb3 hr hb1
  go_wp2_with fail
  go_loopw [34] (fun t wr => ∃ i : Nat, i ≤ M ∧ t = .int .i64 i ∧ (∀ j, j < i → sumB l (rowOf K M O S j) r = zeroB r) ∧ Below w3.heap.size w3 wr) (fun t _ => M - (intOf t).toNat)
  case atStart => exact ⟨0, Nat.zero_le _, rfl, fun j hj => by omega, Below.refl _ _⟩
  case round =>
    obtain ⟨i, hiM, rfl, hall, hbel⟩ := hrel
    have Hall := hide hall
    clear hall
    have hbw := hb4.trans (hbel.mono hb4.size)
    by_cases hlt : i < M
    · have hrr := hr3.below hbel
      have hrc := hrr.cell hlt
      have hrl := rowOf_len K M O S i
      go_wp2_with fail
      refine (sum_any v (rv i) l (rowOf K M O S i) r _ _ (by omega) (fun j hj => by have := rowOf_lt K M O S i j hj; omega) (by omega) (fun x hx => ?hx) (hrr.own i hlt) (HT.out.on hbw)).mono ?_
      case hx => rw [Hre.out]; exact Hsh.out.sizes x hx
      rintro e w5 ⟨rfl, hb5⟩
      have hb6 := hbel.trans (hb5.mono hbel.size)
      generalize htt : sumB l (rowOf K M O S i) r = tt at *
      have Ht := hide htt
      clear htt hrr hrc hb5
      by_cases he : tt = zeroB r
      · subst he
        clear hbel hbw
        go_wp2
        go_roundw
        case rel =>
          refine ⟨i + 1, by omega, by go_num, fun j hj => ?_, hb6⟩
          by_cases e : j = i
          · subst e; exact Ht.out
          · exact Hall.out j (by omega)
        case measure => simp [intOf]; omega
      · have hneq := beq_bytes he
        have hno : ¬ Fit K M O S l (l.getD 0 ByteArray.empty).size := fun h => he (by rw [← Ht.out]; have := h i hlt; rw [← Hre.out] at this; exact this)
        have Hno := hide hno
        have hb7 := hb4.trans (hb6.mono hb4.size)
        clear he hno
        go_wp2
        go_ret2
        exact ⟨⟨false, rfl, fun h => absurd h Hno.out, fun _ => rfl⟩, hb7⟩
    · go_wp2
      go_ret2
      refine ⟨⟨true, rfl, fun _ => rfl, fun h => absurd (fun j hj => ?_) h⟩, hbw⟩
      rw [← Hre.out]
      exact Hall.out j (by omega)

set_option maxRecDepth 100000 in
set_option maxHeartbeats 2000000 in
theorem rfits_ok (K M O S : Nat) (v : Value) (l : List ByteArray) (w : World) (hK : 1 ≤ K ∧ K ≤ 20) (hM : 1 ≤ M ∧ M ≤ 20) (hO : 1 ≤ O ∧ O ≤ M) (hS : S ≤ 65535) (hsh : Shaped l (K + M)) (ht : TextsAt w v l) :
    Calls Try.prog 18 #[specV K M O S, v] w fun e w' => Tells (Fit K M O S l (l.getD 0 ByteArray.empty).size) e ∧ Below w.heap.size w w' := by
  have hlK := hsh.1
  have HT := hide ht
  have Hsh := hide hsh
  have hr1 := (hsh.2 0 (by omega)).2
  generalize hr : (l.getD 0 ByteArray.empty).size = r at *
  have Hr := hide hr
  clear ht hsh hr
  go_enter Try.func18, Try.ntmps18
  go_wp2_with fail
  refine (rrows_ok K M O S _ hK hM hO hS).mono ?_
  rintro e w1 ⟨g, rv, rfl, hr3, hg, hb⟩
  have hb1 : Below w.heap.size w w1 := ((Below.refl _ _).alloc (Nat.le_refl _) _).trans (hb.mono (by simp))
  clear hb hg
  go_wp2_with fail
  go_loopw [11] (fun t wr => ∃ i : Nat, i ≤ M ∧ t = .int .i64 i ∧ (∀ j, j < i → sumB l (rowOf K M O S j) r = zeroB r) ∧ Below w1.heap.size w1 wr) (fun t _ => M - (intOf t).toNat)
  case atStart => exact ⟨0, Nat.zero_le _, rfl, fun j hj => by omega, Below.refl _ _⟩
  case round =>
    obtain ⟨i, hiM, rfl, hall, hbel⟩ := hrel
    have Hall := hide hall
    clear hall
    have hbw := hb1.trans (hbel.mono hb1.size)
    by_cases hlt : i < M
    · have hrr := hr3.below hbel
      have hrc := hrr.cell hlt
      have hrl := rowOf_len K M O S i
      go_wp2_with fail
      refine (total_any v (rv i) l (rowOf K M O S i) r _ _ (by omega) (by omega) (by omega) (by omega) (fun x hx => ?hx) (fun j hj => by have := rowOf_lt K M O S i j hj; omega) (hrr.own i hlt) (HT.out.on hbw)).mono ?_
      case hx => rw [← Hr.out]; exact Hsh.out.sizes x hx
      rintro e w5 ⟨rfl, hb5⟩
      have hb6 := hbel.trans (hb5.mono hbel.size)
      have hts : (sumB l (rowOf K M O S i) r).size = r := sumB_size (fun x hx => by rw [← Hr.out]; exact Hsh.out.sizes x hx) _
      generalize htt : sumB l (rowOf K M O S i) r = tt at *
      have Ht := hide htt
      clear htt hrr hrc hb5
      go_wp2_with fail
      refine (noughts_any r _ (by omega)).mono ?_
      rintro e w6 ⟨rfl, rfl⟩
      by_cases he : tt = zeroB r
      · subst he
        clear hbel hbw hts
        go_wp2
        go_roundw
        case rel =>
          refine ⟨i + 1, by omega, by go_num, fun j hj => ?_, hb6⟩
          by_cases e : j = i
          · subst e; exact Ht.out
          · exact Hall.out j (by omega)
        case measure => simp [intOf]; omega
      · have hneq := beq_bytes he
        have hno : ¬ Fit K M O S l r := fun h => he (by rw [← Ht.out]; exact h i hlt)
        have Hno := hide hno
        have hb7 := hb1.trans (hb6.mono hb1.size)
        clear he hno hts
        go_wp2
        go_ret
        exact ⟨⟨false, rfl, fun h => absurd h Hno.out, fun _ => rfl⟩, hb7⟩
    · go_wp2
      go_ret
      exact ⟨⟨true, rfl, fun _ => rfl, fun h => absurd (fun j hj => Hall.out j (by omega)) h⟩, hbw⟩

end Go.Proofs.Ytnjaofkieajnlaa

/- The makers of the statements without the document's answer: pick, spec, pieces, word. -/
namespace Go.Proofs.Ytnjaofkieajnlaa
open Go.RowKit

/-- The number that a raw one speaks of. -/
def rawOf (c : Int) : Int := if c < 0 then -(c + 1) else c

theorem rawOf_bd (c : Int) (h1 : -9223372036854775808 ≤ c) (h2 : c ≤ 9223372036854775807) : 0 ≤ rawOf c ∧ rawOf c ≤ 9223372036854775807 := by
  unfold rawOf; split <;> omega

set_option maxRecDepth 100000 in
set_option maxHeartbeats 400000 in
theorem pick_any (c n : Int) (w : World) (h1 : -9223372036854775808 ≤ c) (h2 : c ≤ 9223372036854775807) (hn : 1 ≤ n) :
    Calls Try.prog 21 #[.int .i64 c, .int .i64 n] w fun e w' => e = .returned (.int .i64 (rawOf c % n)) ∧ w' = w := by
  by_cases hc : c < 0
  · have hr : rawOf c = -(c + 1) := by simp [rawOf, hc]
    rw [hr]
    clear hr
    go_enter Try.func21, Try.ntmps21
    go_wp2
    go_ret
    exact ⟨ret_int (by rw [← Int.neg_tmod, Int.tmod_eq_emod_of_nonneg (by omega)]), rfl⟩
  · have hr : rawOf c = c := by simp [rawOf, hc]
    rw [hr]
    clear hr
    go_enter Try.func21, Try.ntmps21
    go_wp2
    go_ret
    exact ⟨rfl, rfl⟩

/-- A specification that may be, and a size. -/
structure SpecOk (K M O S z : Nat) : Prop where
  hK : 1 ≤ K ∧ K ≤ 20
  hM : 1 ≤ M ∧ M ≤ 20
  hO : 1 ≤ O ∧ O ≤ M
  hS : S ≤ 65535
  hz : 1 ≤ z ∧ z ≤ 16

/-- The same of whole numbers. -/
structure SpecOkI (K M O S z : Int) : Prop where
  hK : 1 ≤ K ∧ K ≤ 20
  hM : 1 ≤ M ∧ M ≤ 20
  hO : 1 ≤ O ∧ O ≤ M
  hS : 0 ≤ S ∧ S ≤ 65535
  hz : 1 ≤ z ∧ z ≤ 16

set_option maxRecDepth 100000 in
set_option maxHeartbeats 2000000 in
theorem spec_int (c : Int) (w : World) (h1 : -9223372036854775808 ≤ c) (h2 : c ≤ 9223372036854775807) :
    Calls Try.prog 27 #[.int .i64 c] w fun e w' => ∃ K M O S z : Int, e = .returned (.tuple #[specV K M O S, .int .i64 z]) ∧ SpecOkI K M O S z ∧ Below w.heap.size w w' := by
  have hb := rawOf_bd c h1 h2
  generalize hr : rawOf c = r at *
  have Hr := hide hr
  clear hr
  have hv0 : 0 ≤ r % 1099511627776 ∧ r % 1099511627776 < 1099511627776 := by omega
  go_enter Try.func27, Try.ntmps27
  go_wp2_with fail
  refine (pick_any c 1099511627776 _ h1 h2 (by omega)).mono ?_
  rintro e w1 ⟨rfl, rfl⟩
  rw [Hr.out]
  generalize r % 1099511627776 = v at *
  have m1 : 0 ≤ v / 400 % (1 + v / 20 % 20) := Int.emod_nonneg _ (by omega)
  have m2 : v / 400 % (1 + v / 20 % 20) < 1 + v / 20 % 20 := Int.emod_lt_of_pos _ (by omega)
  by_cases t1 : v / 400 / 20 % 2 = 0
  · have t1b : (v / 400 / 20 % 2 == 0) = true := by simp [t1]
    by_cases t2 : 2 < 1 + v / 20 % 20
    · go_wp2
      refine bodyPost_ret (v := .tuple #[specV (1 + v % 20) (1 + v / 20 % 20) (1 + v / 400 % 3) (v / 400 / 40 % 65536), .int .i64 (1 + v / 400 / 7 % 16)]) (by simp [results, Try.results27, go_sem]) rfl ⟨_, _, _, _, _, rfl, ⟨by omega, by omega, by omega, by omega, by omega⟩, ?_⟩
      exact ((Below.refl _ _).alloc (Nat.le_refl _) _).alloc (by simp) _
    · go_wp2
      refine bodyPost_ret (v := .tuple #[specV (1 + v % 20) (1 + v / 20 % 20) (1 + v / 400 % (1 + v / 20 % 20)) (v / 400 / 40 % 65536), .int .i64 (1 + v / 400 / 7 % 16)]) (by simp [results, Try.results27, go_sem]) rfl ⟨_, _, _, _, _, rfl, ⟨by omega, by omega, by omega, by omega, by omega⟩, ?_⟩
      exact ((Below.refl _ _).alloc (Nat.le_refl _) _).alloc (by simp) _
  · have t1b : (v / 400 / 20 % 2 == 0) = false := by simp; exact t1
    go_wp2
    refine bodyPost_ret (v := .tuple #[specV (1 + v % 20) (1 + v / 20 % 20) (1 + v / 400 % (1 + v / 20 % 20)) (v / 400 / 40 % 65536), .int .i64 (1 + v / 400 / 7 % 16)]) (by simp [results, Try.results27, go_sem]) rfl ⟨_, _, _, _, _, rfl, ⟨by omega, by omega, by omega, by omega, by omega⟩, ?_⟩
    exact ((Below.refl _ _).alloc (Nat.le_refl _) _).alloc (by simp) _

theorem spec_any (c : Int) (w : World) (h1 : -9223372036854775808 ≤ c) (h2 : c ≤ 9223372036854775807) :
    Calls Try.prog 27 #[.int .i64 c] w fun e w' => ∃ K M O S z : Nat, e = .returned (.tuple #[specV K M O S, .int .i64 (z : Int)]) ∧ SpecOk K M O S z ∧ Below w.heap.size w w' := by
  refine (spec_int c w h1 h2).mono ?_
  rintro e w' ⟨K, M, O, S, z, rfl, h, hb⟩
  obtain ⟨hK, hM, hO, hS, hz⟩ := h
  obtain ⟨k, rfl⟩ := Int.eq_ofNat_of_zero_le (show 0 ≤ K by omega)
  obtain ⟨m, rfl⟩ := Int.eq_ofNat_of_zero_le (show 0 ≤ M by omega)
  obtain ⟨o, rfl⟩ := Int.eq_ofNat_of_zero_le (show 0 ≤ O by omega)
  obtain ⟨s, rfl⟩ := Int.eq_ofNat_of_zero_le (show 0 ≤ S by omega)
  obtain ⟨y, rfl⟩ := Int.eq_ofNat_of_zero_le (show 0 ≤ z by omega)
  exact ⟨k, m, o, s, y, rfl, ⟨by omega, by omega, by omega, by omega, by omega⟩, hb⟩

end Go.Proofs.Ytnjaofkieajnlaa

/- The pieces that the statements make of a text's bytes: as many as asked, each of the size asked. -/
namespace Go.Proofs.Ytnjaofkieajnlaa
open Go.RowKit

theorem u8_of (x : Int) (h : 0 ≤ x ∧ x ≤ 255) : ∃ y : UInt8, x = (y.toNat : Int) := ⟨UInt8.ofNat x.toNat, by
  rw [UInt8.toNat_ofNat']
  omega⟩

theorem bytesV_push (b : ByteArray) (y : UInt8) : bytesV (b.push y) = bytesV b ++ [.int .u8 (y.toNat : Int)] := by
  unfold bytesV numsB
  cases b
  simp [ByteArray.push]

theorem u8_wrap_bd (x : Int) : 0 ≤ IntKind.u8.wrap x ∧ IntKind.u8.wrap x ≤ 255 := by
  rw [IntKind.wrap_u8']
  omega

set_option maxRecDepth 100000 in
set_option maxHeartbeats 4000000 in
theorem pieces_any (n z : Nat) (text : ByteArray) (w : World) (hn : n ≤ 1000) (hz : 1 ≤ z ∧ z ≤ 100) (ht : text.size ≤ 9223372036854775807) :
    Calls Try.prog 29 #[.int .i64 (n : Int), .int .i64 (z : Int), .string text] w fun e w' => ∃ v l, e = .returned v ∧ l.length = n ∧ (∀ x ∈ l, x.size = z) ∧ w'.ownsRow w.heap.size 9 1 v n (textV l) ∧ Below w.heap.size w w' := by
  obtain ⟨i0, hi, hz0, hz1, hz2⟩ := info_parts Try.infoByte
  obtain ⟨j0, gi, gz0, gz1, gz2⟩ := info_parts Try.infoText
  go_enter Try.func29, Try.ntmps29
  go_wp2_with fail
  go_loopw [7, 8, 13] (fun v at_ t wr => ∃ (i a : Nat) (l : List ByteArray), i ≤ n ∧ t = .int .i64 i ∧ at_ = .int .i64 a ∧ a ≤ 100 * i ∧ l.length = i ∧ (∀ x ∈ l, x.size = z) ∧ wr.ownsRow w.heap.size 9 1 v i (textV l) ∧ Below w.heap.size w wr) (fun _ _ t _ => n - (intOf t).toNat)
  case atStart => exact ⟨0, 0, [], Nat.zero_le _, rfl, rfl, by omega, rfl, fun x hx => by simp at hx, World.ownsRow_nil _ _ _ _, Below.refl _ _⟩
  case round =>
    obtain ⟨i, a, l, hin, rfl, rfl, ha, hli, hls, hown, hbel⟩ := hrel
    have Hls := hide hls
    have Hli := hide hli
    clear hls hli
    by_cases hlt : i < n
    · obtain ⟨W2, rfl⟩ : ∃ W, W = wr := ⟨_, rfl⟩
      go_wp2_with fail
      go_loopw [8, 10, 17] (fun at_ v t wr => ∃ (k a : Nat) (b : ByteArray), k ≤ z ∧ t = .int .i64 k ∧ at_ = .int .i64 a ∧ a ≤ 100 * i + k ∧ b.size = k ∧ wr.ownsRow W2.heap.size 5 1 v k (bytesV b) ∧ Below W2.heap.size W2 wr) (fun _ _ t _ => z - (intOf t).toNat)
      case atStart => exact ⟨0, a, ByteArray.empty, Nat.zero_le _, rfl, rfl, by omega, rfl, World.ownsRow_nil _ _ _ _, Below.refl _ _⟩
      case round =>
        obtain ⟨k, a2, b, hkz, rfl, rfl, ha2, hbs, hownb, hbel2⟩ := hrel
        have Hbs := hide hbs
        clear hbs
        have hsz := hbel2.size
        by_cases hkl : k < z
        · have hst : ∀ (y : UInt8) (w3 : World) (gg cap : Nat), w3.ownsRow W2.heap.size 5 1 (.slice (some ⟨gg, 0, none⟩) (k + 1) cap) (k + 1) (bytesV b ++ [.int .u8 (y.toNat : Int)]) → w3.ownsRow W2.heap.size 5 1 (.slice (some ⟨gg, 0, none⟩) (k + 1) cap) (k + 1) (bytesV (b.push y)) := fun y w3 gg cap h => by rw [bytesV_push]; exact h
          have hps : ∀ y : UInt8, (b.push y).size = k + 1 := fun y => by rw [ByteArray.size_push, Hbs.out]
          have Hst := hide hst
          have Hps := hide hps
          clear hst hps
          have hnl : 0 ≤ (a2 : Int) * 7 * (i : Int) ∧ (a2 : Int) * 7 * (i : Int) ≤ 1000000000000 := by
            have h1 : a2 * 7 * i ≤ 1000000 * 1000 := Nat.mul_le_mul (by omega) (by omega)
            have h2 : ((a2 * 7 * i : Nat) : Int) = (a2 : Int) * 7 * (i : Int) := by simp
            omega
          by_cases hts : 0 < text.size
          · have hm1 : (0 : Int) ≤ (a2 : Int) % (text.size : Int) := Int.emod_nonneg _ (by omega)
            have hm2 : (a2 : Int) % (text.size : Int) < (text.size : Int) := Int.emod_lt_of_pos _ (by omega)
            have hidx : a2 % text.size < text.size := Nat.mod_lt _ hts
            obtain ⟨y, hy⟩ := u8_of (((a2 : Int) * 7 * (i : Int) + ((text[a2 % text.size]'hidx).toNat : Int)) % 256) (by omega)
            go_wp2_with (at_builtin; refine wpList_append_lies _ rfl (.tmp 35) (.tmp 37) 53 rfl W2.heap.size 5 i0 (.int .u8 0) 1 1 Try.underlying53 hi hz0 hz1 hz2 rfl (by decide) _ _ _ rfl (hownb.alloc _) ⟨wr.heap.size, 0, none⟩ 1 1 [.int .u8 (y.toNat : Int)] rfl rfl (one_news _ _ _) (one_oneCell rfl) (by decide) (by unfold maxLen; omega) (by omega) (by simp; omega) (wr.heap.size + 1) (by simp) ?_)
            intro gg cap w3 hown3 hgr hat3 hlt3
            have hb3 : Below W2.heap.size W2 w3 := (hbel2.alloc hsz _).grown hgr (by simp; omega) (fun q hq => (hownb.lt q hq).1)
            have hown4 := Hst.out y w3 gg cap hown3
            clear hown3 hgr hat3 hbel2 hownb hy
            go_wp2
            go_roundw
            case rel => exact ⟨k + 1, a2 + 1, b.push y, by omega, by go_num, by go_num, by omega, Hps.out y, hown4, hb3⟩
            case measure => simp [intOf]; omega
          · obtain ⟨y, hy⟩ := u8_of ((a2 : Int) * 7 * (i : Int) % 256) (by omega)
            go_wp2_with (at_builtin; refine wpList_append_lies _ rfl (.tmp 35) (.tmp 37) 53 rfl W2.heap.size 5 i0 (.int .u8 0) 1 1 Try.underlying53 hi hz0 hz1 hz2 rfl (by decide) _ _ _ rfl (hownb.alloc _) ⟨wr.heap.size, 0, none⟩ 1 1 [.int .u8 (y.toNat : Int)] rfl rfl (one_news _ _ _) (one_oneCell rfl) (by decide) (by unfold maxLen; omega) (by omega) (by simp; omega) (wr.heap.size + 1) (by simp) ?_)
            intro gg cap w3 hown3 hgr hat3 hlt3
            have hb3 : Below W2.heap.size W2 w3 := (hbel2.alloc hsz _).grown hgr (by simp; omega) (fun q hq => (hownb.lt q hq).1)
            have hown4 := Hst.out y w3 gg cap hown3
            clear hown3 hgr hat3 hbel2 hownb hy
            go_wp2
            go_roundw
            case rel => exact ⟨k + 1, a2 + 1, b.push y, by omega, by go_num, by go_num, by omega, Hps.out y, hown4, hb3⟩
            case measure => simp [intOf]; omega
        · have hkz2 : k = z := by omega
          have hownb2 : wr.ownsRow W2.heap.size 5 1 u10 b.size (bytesV b) := by rw [Hbs.out]; exact hownb
          obtain ⟨g, cap, rfl, hc⟩ := owns_bytes hownb2 (by rw [Hbs.out]; omega)
          have hcv := run_convert_bytes_arg (P := Try.prog) wr 53 5 Try.underlying53 Try.underlying5 g 0 b.size cap (numsB b) (numsB_length _) hc 9 Try.underlying9
          rw [strOfNums_numsB] at hcv
          have hown2 := owns_below hown hbel2
          have hb2 := hbel.trans (hbel2.mono hbel.size)
          have hwz : w.heap.size ≤ wr.heap.size := hb2.size
          clear hc hownb hownb2 hown
          go_wp2_with (at_builtin; refine wpList_append_lies _ rfl (.tmp 42) (.tmp 45) 28 rfl w.heap.size 9 j0 (.string ByteArray.empty) 1 16 Try.underlying28 gi gz0 gz1 gz2 rfl (by decide) _ _ _ rfl (hown2.alloc _) ⟨wr.heap.size, 0, none⟩ 1 1 [.string b] rfl rfl (one_news _ _ _) (one_oneCell rfl) (by decide) (by unfold maxLen; omega) (by omega) (by simp; omega) (wr.heap.size + 1) (by simp) ?_)
          intro gg cap3 w3 hown3 hgr hat3 hlt3
          have hb3 : Below w.heap.size w w3 := (hb2.alloc hwz _).grown hgr (by simp; omega) (fun q hq => (hown2.lt q hq).1)
          clear hgr hat3 hb2 hown2 hcv
          go_wp2
          go_roundw
          case rel =>
            refine ⟨i + 1, a2, l ++ [b], by omega, by go_num, rfl, by omega, by rw [List.length_append, Hli.out]; rfl, fun x hx => ?_, by rw [textV_append]; exact hown3, hb3⟩
            rcases List.mem_append.1 hx with h | h
            · exact Hls.out x h
            · simp at h; rw [h, Hbs.out]; exact hkz2
          case measure => simp [intOf]; omega
    · go_wp2
      go_ret
      exact ⟨_, l, rfl, by rw [Hli.out]; omega, Hls.out, by have : i = n := by omega
                                                            subst this; exact hown, hbel⟩

end Go.Proofs.Ytnjaofkieajnlaa

/- The word that the statements make: data, and the spare pieces that the program gives for them. -/
namespace Go.Proofs.Ytnjaofkieajnlaa
open Go.RowKit

theorem sparesOf_get (K M O S z i : Nat) (l : List ByteArray) (hi : i < M) : (sparesOf K M O S l z).getD i ByteArray.empty = sumB (knownTo l (rowOf K M O S) z i) (rowOf K M O S i) z := by
  unfold sparesOf
  rw [List.getD_eq_getElem?_getD, List.getElem?_drop, ← List.getD_eq_getElem?_getD, knownTo_get l _ z (i + 1) M _ (by omega) (by omega), knownTo_last]

set_option maxRecDepth 100000 in
set_option maxHeartbeats 4000000 in
theorem word_ok (K M O S z : Nat) (v : Value) (l : List ByteArray) (w : World) (hs : SpecOk K M O S z) (hl : l.length = K) (hls : ∀ x ∈ l, x.size = z) (ht : TextsAt w v l) :
    Calls Try.prog 28 #[specV K M O S, v] w fun e w' => ∃ v', e = .returned (.tuple #[v', .bool true]) ∧ w'.ownsRow w.heap.size 9 1 v' (K + M) (textV (knownTo l (rowOf K M O S) z M)) ∧ Below w.heap.size w w' := by
  obtain ⟨hK, hM, hO, hS, hz⟩ := hs
  have hget : ∀ k, k < l.length → (l.getD k ByteArray.empty).size = z := fun k hk => hls _ (by rw [List.getD_eq_getElem?_getD, List.getElem?_eq_getElem hk]; exact List.getElem_mem hk)
  have h0s := hget 0 (by omega)
  have hsh : Shaped l K := ⟨hl, fun k hk => by rw [hget k hk, h0s]; omega⟩
  have HT := hide ht
  have Hsh := hide hsh
  have Hls := hide hls
  obtain ⟨ao, cap, rfl, hcap, hc⟩ := ht
  obtain ⟨q, o, rfl, hq, hc0⟩ := hc 0 (by omega)
  have HC := hide (texts_cells hc rfl)
  subst hl
  obtain ⟨i0, hi, hz0, hz1, hz2⟩ := info_parts Try.infoText
  clear hsh hls hget hc
  go_enter Try.func28, Try.ntmps28
  go_wp2_with fail
  refine (spare_ok l.length M O S _ l _ hK hM hO hS Hsh.out (HT.out.on ((Below.refl _ _).alloc (Nat.le_refl _) _))).mono ?_
  rintro e w1 ⟨v', rfl, hv, hb⟩
  rw [h0s] at hv
  have hs1 := block_on (heap_alloc_new w _) hb
  have hb1 : Below w.heap.size w w1 := ((Below.refl _ _).alloc (Nat.le_refl _) _).trans (hb.mono (by simp))
  obtain ⟨c0, c1, c2, c3⟩ := spec_cellsI hs1
  obtain ⟨gv, cv, rfl, _, hgv⟩ := hv.form (by omega)
  have hnews : ∀ j u, (textV l)[j]? = some u → w1.cell? ((⟨q, o, none⟩ : Addr).add j) = some u := texts_news (fun k hk => by rw [hb1.cell (p := ⟨q, o + k, none⟩) hq]; exact HC.out k hk)
  have HN := hide hnews
  have hnil := World.ownsRow_nil w1 w1.heap.size 9 1
  clear hb hnews
  go_wp2_with (at_builtin; refine wpList_append_lies _ rfl (.tmp 26) (.tmp 27) 28 rfl w1.heap.size 9 i0 (.string ByteArray.empty) 1 16 Try.underlying28 hi hz0 hz1 hz2 rfl (by decide) _ _ _ rfl hnil ⟨q, o, none⟩ l.length cap (textV l) rfl (by rw [textV_length]; omega) HN.out (textV_one l) (by omega) (by unfold maxLen; omega) (by omega) (Nat.le_refl _) w1.heap.size rfl ?_)
  intro g9 cap9 w2 hown9 hgr9 hat9 hlt9
  have hb2 : Below w1.heap.size w1 w2 := (Below.refl _ _).grown hgr9 (Nat.le_refl _) (fun k e => by simp [Value.ownBlock] at e)
  have hst0 : w2.ownsRow w1.heap.size 9 1 (.slice (some ⟨g9, 0, none⟩) l.length cap9) (l.length + 0) (textV (knownTo l (rowOf l.length M O S) z 0)) := hown9
  clear hgr9 hat9 c0 c1 c2 c3 hown9 hnil
  go_wp2_with fail
  go_loopw [8, 31] (fun v8 t wr => ∃ i : Nat, i ≤ M ∧ t = .int .i64 i ∧ wr.ownsRow w1.heap.size 9 1 v8 (l.length + i) (textV (knownTo l (rowOf l.length M O S) z i)) ∧ Below w1.heap.size w1 wr) (fun _ t _ => M - (intOf t).toNat)
  case atStart => exact ⟨0, Nat.zero_le _, rfl, hst0, hb2⟩
  case round =>
    clear hst0 hb2
    obtain ⟨i, hiM, rfl, hown, hbel⟩ := hrel
    have hb3 := hb1.trans (hbel.mono hb1.size)
    by_cases hlt : i < M
    · obtain ⟨ao2, cp2, he2, hle2, hc3⟩ := (owns_texts hv (by rw [sparesOf_length])).on hbel
      obtain ⟨q2, o2, rfl, hq2, hc2⟩ := hc3 i (by rw [sparesOf_length]; exact hlt)
      simp at he2
      obtain ⟨⟨rfl, rfl⟩, hM3, rfl⟩ := he2
      clear hM3 hle2 hc3
      rw [sparesOf_get l.length M O S z i l hlt, Nat.zero_add] at hc2
      have hkl := knownTo_length l (rowOf l.length M O S) z i
      have hks : knownTo l (rowOf l.length M O S) z (i + 1) = knownTo l (rowOf l.length M O S) z i ++ [sumB (knownTo l (rowOf l.length M O S) z i) (rowOf l.length M O S i) z] := rfl
      have hps := sumB_size (knownTo_size (rows := rowOf l.length M O S) Hls.out i) (rowOf l.length M O S i)
      have Hks := hide hks
      clear hks
      generalize sumB (knownTo l (rowOf l.length M O S) z i) (rowOf l.length M O S i) z = p at *
      generalize knownTo l (rowOf l.length M O S) z i = kn at *
      have hd0 := (hb3.cell (p := ⟨q, o + 0, none⟩) hq).trans hc0
      simp only [Nat.add_zero] at hd0
      have hsz := hbel.size
      generalize l.getD 0 ByteArray.empty = p0 at *
      have hbn : ((p.size : Int) != (p0.size : Int)) = false := by simp; omega
      have Hps := hide hps
      have H0 := hide h0s
      clear hps h0s hc0
      go_wp2_with (at_builtin; refine wpList_append_lies _ rfl (.tmp 42) (.tmp 44) 28 rfl w1.heap.size 9 i0 (.string ByteArray.empty) 1 16 Try.underlying28 hi hz0 hz1 hz2 rfl (by decide) _ _ _ rfl (hown.alloc _) ⟨wr.heap.size, 0, none⟩ 1 1 [.string p] rfl rfl (one_news _ _ _) (one_oneCell rfl) (by decide) (by unfold maxLen; omega) (by omega) (by simp; omega) (wr.heap.size + 1) (by simp) ?_)
      intro gg cap3 w3 hown3 hgr hat3 hlt3
      have hb4 : Below w1.heap.size w1 w3 := (hbel.alloc hsz _).grown hgr (by simp; omega) (fun q hq => (hown.lt q hq).1)
      clear hgr hat3 hbel hown hc2 hd0
      go_wp2
      go_roundw
      case rel => exact ⟨i + 1, by omega, by go_num, by rw [Hks.out, textV_append]; exact hown3, hb4⟩
      case measure => simp [intOf]; omega
    · have hiM2 : i = M := by omega
      subst hiM2
      have hown2 := owns_base (base' := w.heap.size) hown (fun k e => by have := (hown.lt k e).1; have := hb1.size; omega)
      clear hown
      go_wp2
      go_ret2
      exact ⟨_, rfl, hown2, hb3⟩

end Go.Proofs.Ytnjaofkieajnlaa

/- A piece with one bit turned is another piece of the same size. -/
namespace Go.Proofs.Ytnjaofkieajnlaa
open Go.RowKit

/-- The bytes of a text, laid into a row of the call's own. -/
theorem bytes_run (s : ByteArray) (w : World) : ∃ cap W1, (convert 9 53 (.string s)).run Try.prog w = .ok (.slice (some ⟨w.heap.size, 0, none⟩) s.size cap) W1 ∧
    (∀ j, j < s.size → W1.cell? ⟨w.heap.size, j, none⟩ = some (.int .u8 ((byteAt s j).toNat : Int))) ∧ (∀ j, j < s.size → W1.frozen? ⟨w.heap.size, j, none⟩ = false) ∧ Below w.heap.size w W1 ∧ w.heap.size < W1.heap.size := by
  have h := run_bytes_of_string (P := Try.prog) w 9 53 5 s Try.underlying9 Try.underlying53 Try.underlying5
  refine ⟨_, _, h, fun j hj => ?_, fun j hj => ?_, (Below.refl _ _).drew.alloc (Nat.le_refl _) _, by simp⟩
  · have hd : w.drew.heap.size = w.heap.size := rfl
    rw [← hd, World.cell?_alloc_mark]
    unfold bytesRow
    rw [Array.getElem?_append_left (by simpa using hj)]
    have hj2 : j < s.data.size := hj
    rw [Array.getElem?_map, Array.getElem?_eq_getElem hj2]
    have := byteAt_get s j hj
    rw [← this]
    rfl
  · have hd : w.drew.heap.size = w.heap.size := rfl
    rw [← hd, World.frozen?_alloc_mark]
    have : j < (bytesRow s (grownCap w s.size 0 5)).size := by
      unfold bytesRow
      rw [Array.size_append, Array.size_map]
      have : s.data.size = s.size := rfl
      omega
    simp
    omega

/-- A text with another byte at m. -/
def setByte (p : ByteArray) (m : Nat) (x : UInt8) : ByteArray := ⟨(p.data.toList.set m x).toArray⟩

theorem setByte_size (p : ByteArray) (m : Nat) (x : UInt8) : (setByte p m x).size = p.size := by
  show (p.data.toList.set m x).toArray.size = p.size
  rw [List.size_toArray, List.length_set]; rfl

theorem byteAt_setByte (p : ByteArray) (m : Nat) (x : UInt8) (hm : m < p.size) (i : Nat) : byteAt (setByte p m x) i = if i = m then x else byteAt p i := by
  unfold byteAt setByte
  have hm2 : m < p.data.toList.length := by simpa using hm
  simp only [List.getD_eq_getElem?_getD]
  by_cases e : i = m
  · subst e
    rw [if_pos rfl]
    show ((p.data.toList.set i x).toArray.toList)[i]?.getD 0 = x
    rw [List.toList_toArray, List.getElem?_set_self hm2]; rfl
  · rw [if_neg e]
    show ((p.data.toList.set m x).toArray.toList)[i]?.getD 0 = _
    rw [List.toList_toArray, List.getElem?_set_ne (by omega)]

theorem setByte_ne (p : ByteArray) (m : Nat) (x : UInt8) (hm : m < p.size) (hx : x ≠ byteAt p m) : setByte p m x ≠ p := by
  intro e
  have h := byteAt_setByte p m x hm m
  rw [e, if_pos rfl] at h
  exact hx h.symm

theorem pow_u8 (b : Nat) (hb : b < 8) : (2 : Int) ^ b % 256 = (((1 : UInt8) <<< UInt8.ofNat b).toNat : Int) ∧ (1 : UInt8) <<< UInt8.ofNat b ≠ 0 := by
  have h : b = 0 ∨ b = 1 ∨ b = 2 ∨ b = 3 ∨ b = 4 ∨ b = 5 ∨ b = 6 ∨ b = 7 := by omega
  rcases h with rfl | rfl | rfl | rfl | rfl | rfl | rfl | rfl <;> exact ⟨by decide, by decide⟩

theorem xor_other (a y : UInt8) (hy : y ≠ 0) : a ^^^ y ≠ a := by
  intro e
  apply hy
  have h : a ^^^ (a ^^^ y) = a ^^^ a := by rw [e]
  rwa [← UInt8.xor_assoc, UInt8.xor_self, UInt8.zero_xor] at h

set_option maxRecDepth 100000 in
set_option maxHeartbeats 1000000 in
theorem flipped_any (p : ByteArray) (c : Int) (w : World) (h1 : -9223372036854775808 ≤ c) (h2 : c ≤ 9223372036854775807) (h0 : 0 < p.size) (hs : p.size ≤ 1000) :
    Calls Try.prog 30 #[.string p, .int .i64 c] w fun e w' => ∃ q, e = .returned (.string q) ∧ q.size = p.size ∧ q ≠ p ∧ Below w.heap.size w w' := by
  obtain ⟨cap, W1, hrun, hcell, hfrz, hbel, hlt⟩ := bytes_run p w
  have HC := hide hcell
  have HF := hide hfrz
  clear hcell hfrz
  go_enter Try.func30, Try.ntmps30
  go_wp2_with fail
  refine (pick_any c _ _ h1 h2 (by omega)).mono ?_
  rintro e w1 ⟨rfl, rfl⟩
  have hm0 : 0 ≤ rawOf c % (8 * (p.size : Int)) := Int.emod_nonneg _ (by omega)
  have hm1 : rawOf c % (8 * (p.size : Int)) < 8 * (p.size : Int) := Int.emod_lt_of_pos _ (by omega)
  obtain ⟨k, hk⟩ := Int.eq_ofNat_of_zero_le hm0
  rw [hk] at hm1
  rw [hk]
  clear hm0 hk hrun
  have hkm : k / 8 < p.size := by omega
  have hc := HC.out (k / 8) hkm
  have hf := HF.out (k / 8) hkm
  have i1 : (0 : Int) ≤ (k : Int) / 8 := by omega
  have i2 : (k : Int) / 8 < (p.size : Int) := by omega
  obtain ⟨hy, hy0⟩ := pow_u8 (k % 8) (by omega)
  generalize (1 : UInt8) <<< UInt8.ofNat (k % 8) = y at *
  have hx := u8_xor_nat (byteAt p (k / 8)).toNat y.toNat (byteAt p (k / 8)).toNat_lt y.toNat_lt
  have hne := setByte_ne p (k / 8) (byteAt p (k / 8) ^^^ y) hkm (xor_other _ _ hy0)
  have Hne := hide hne
  clear hne
  have hcells : ∀ j, j < p.size → ((w1.setCell ⟨w.heap.size, k / 8, none⟩ (.int .u8 (((byteAt p (k / 8)).toNat ^^^ y.toNat : Nat) : Int))).drew).cell? ⟨w.heap.size, 0 + j, none⟩ = some (.int .u8 ((numsB (setByte p (k / 8) (byteAt p (k / 8) ^^^ y))).getD j 0)) := fun j hj => by
    rw [numsB_getD, byteAt_setByte p (k / 8) _ hkm, Nat.zero_add]
    show (w1.setCell _ _).cell? _ = _
    by_cases e : j = k / 8
    · rw [if_pos e, e, toNat_xor]
      exact World.cell?_setCell_same w1 _ _ hc
    · rw [if_neg e, World.cell?_setCell_other w1 _ _ _ (fun h => e (congrArg Addr.off h).symm)]
      exact HC.out j hj
  have hcv := run_convert_bytes_arg (P := Try.prog) _ 53 5 Try.underlying53 Try.underlying5 w.heap.size 0 p.size cap (numsB (setByte p (k / 8) (byteAt p (k / 8) ^^^ y))) (by rw [numsB_length, setByte_size]) hcells 9 Try.underlying9
  rw [strOfNums_numsB] at hcv
  clear hcells
  have hb2 := (hbel.setCell (p := ⟨w.heap.size, k / 8, none⟩) (Nat.le_refl _) (.int .u8 (((byteAt p (k / 8)).toNat ^^^ y.toNat : Nat) : Int))).drew
  clear hbel
  go_wp2_with fail
  go_region
  all_goals
    clear hc hf hx hy
    go_wp2
    go_ret
    exact ⟨_, rfl, setByte_size _ _ _, Hne.out, hb2⟩

end Go.Proofs.Ytnjaofkieajnlaa
