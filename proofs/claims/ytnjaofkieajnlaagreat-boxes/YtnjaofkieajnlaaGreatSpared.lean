/- Spared: for every specification and every list of texts the program's Spare answers as the document asks, and leaves what is handed in alone. -/
import Derived.Test.YtnjaofkieajnlaaGreatRWord
namespace Go.Proofs.YtnjaofkieajnlaaGreat
open Go.RowKit

theorem owns_suffix {w : World} {base g n cap K : Nat} {kn : List ByteArray} (h : w.ownsRow base 9 1 (.slice (some ⟨g, 0, none⟩) n cap) n (textV kn)) (hn : n = kn.length) (hK : K ≤ n) :
    TextsAt w (.slice (some ⟨g, K, none⟩) (n - K) (cap - K)) (kn.drop K) := by
  obtain ⟨ao, c, hv, hc, hcell⟩ := owns_texts h hn
  simp at hv
  obtain ⟨rfl, rfl, rfl⟩ := hv
  refine ⟨_, _, by rw [List.length_drop], by rw [List.length_drop]; omega, fun k hk => ?_⟩
  rw [List.length_drop] at hk
  obtain ⟨q, o, he, hq, hcl⟩ := hcell (K + k) (by omega)
  simp at he
  obtain ⟨rfl, rfl⟩ := he
  refine ⟨g, K, rfl, hq, ?_⟩
  rw [Nat.zero_add] at hcl
  rw [hcl]
  simp [List.getD_eq_getElem?_getD, List.getElem?_drop]

theorem TextsAt.chg {w w1 : World} {v : Value} {l : List ByteArray} (h : TextsAt w v l) (hb : Chg (fun _ => False) w w1) : TextsAt w1 v l := h.on (hb.below (fun _ _ x => x))

theorem HandedAt.on {w w1 : World} {g : Nat} {l : List ByteArray} (h : HandedAt w g l) (hb : Below w.heap.size w w1) : HandedAt w1 g l := h.of_block (hb.block g h.lt)

theorem Below.chg {w w1 w2 : World} {B : Nat} (h : Below B w w1) (hB : B ≤ w1.heap.size) (hc : Chg (fun _ => False) w1 w2) : Below B w w2 := h.trans ((hc.below (fun _ _ x => x)).mono hB)

set_option maxRecDepth 100000 in
set_option maxHeartbeats 2000000 in
theorem lawSpare_bad (K M O S : Int) (v : Value) (l : List ByteArray) (w : World) (hl : l.length ≤ 8796093022208) (hmay : mayB K M O S = false) (ht : TextsAt w v l) :
    Calls Tryz.prog 46 #[specV K M O S, v] w fun e w' => e = .returned (.tuple #[.slice none 0 0, .bool true]) ∧ Below w.heap.size w w' := by
  have HT := hide ht
  clear ht
  go_enter Tryz.func46, Tryz.ntmps46
  go_wp2_with fail
  refine (handed_any v l _ hl (HT.out.on ((Below.refl _ _).alloc (Nat.le_refl _) _))).mono ?_
  rintro e w1 ⟨g, rfl, hh, hg, hb⟩
  have hs1 := block_on (heap_alloc_new w _) hb
  have hb1 : Below w.heap.size w w1 := ((Below.refl _ _).alloc (Nat.le_refl _) _).trans (hb.mono (by simp))
  obtain ⟨c0, c1, c2, c3⟩ := spec_cellsI hs1
  clear hb hg
  go_wp2_with fail
  refine (spare_bad K M O S _ _ hmay).mono ?_
  rintro e w2 ⟨rfl, hb⟩
  have hs2 := block_on hs1 hb
  have hh2 := hh.on hb
  have hb2 := hb1.trans (hb.mono hb1.size)
  clear c0 c1 c2 c3 hs1 hb1 hb hh
  go_wp2_with fail
  refine (still_yes v l g _ hl hh2 (HT.out.on hb2)).mono ?_
  rintro e w3 ⟨rfl, hcg⟩
  have hb := hcg.below (fun _ _ x => x)
  have hs3 := block_on hs2 hb
  have hb3 := hb2.trans (hb.mono hb2.size)
  obtain ⟨c0, c1, c2, c3⟩ := spec_cellsI hs3
  clear hcg hb hs2 hb2 hh2
  go_wp2_with fail
  refine (may_below _ _ _ _ _).mono ?_
  rintro e w4 ⟨rfl, hb⟩
  rw [hmay]
  have hb4 := hb3.trans (hb.mono hb3.size)
  clear c0 c1 c2 c3 hb hb3 hs3
  go_wp2
  go_ret2
  exact ⟨rfl, hb4⟩

set_option maxRecDepth 100000 in
set_option maxHeartbeats 2000000 in
theorem lawSpare_shape (K M O S : Nat) (v : Value) (l : List ByteArray) (w : World) (hK : 1 ≤ K ∧ K ≤ 20) (hM : 1 ≤ M ∧ M ≤ 20) (hO : 1 ≤ O ∧ O ≤ M) (hS : S ≤ 65535) (hl : l.length ≤ 8796093022208) (hsh : ¬ Shaped l K) (ht : TextsAt w v l) :
    Calls Tryz.prog 46 #[specV K M O S, v] w fun e w' => e = .returned (.tuple #[.slice none 0 0, .bool true]) ∧ Below w.heap.size w w' := by
  have hmay : mayB K M O S = true := by simp [mayB]; omega
  have HT := hide ht
  have Hsh := hide hsh
  clear ht hsh
  go_enter Tryz.func46, Tryz.ntmps46
  go_wp2_with fail
  refine (handed_any v l _ hl (HT.out.on ((Below.refl _ _).alloc (Nat.le_refl _) _))).mono ?_
  rintro e w1 ⟨g, rfl, hh, hg, hb⟩
  have hs1 := block_on (heap_alloc_new w _) hb
  have hb1 : Below w.heap.size w w1 := ((Below.refl _ _).alloc (Nat.le_refl _) _).trans (hb.mono (by simp))
  obtain ⟨c0, c1, c2, c3⟩ := spec_cellsI hs1
  clear hb hg
  go_wp2_with fail
  refine (spare_shape K M O S _ l _ hK hM hO hS hl Hsh.out hh.texts).mono ?_
  rintro e w2 ⟨rfl, hb⟩
  have hs2 := block_on hs1 hb
  have hh2 := hh.on hb
  have hb2 := hb1.trans (hb.mono hb1.size)
  clear c0 c1 c2 c3 hs1 hb1 hb hh
  go_wp2_with fail
  refine (still_yes v l g _ hl hh2 (HT.out.on hb2)).mono ?_
  rintro e w3 ⟨rfl, hcg⟩
  have hb := hcg.below (fun _ _ x => x)
  have hs3 := block_on hs2 hb
  have hb3 := hb2.trans (hb.mono hb2.size)
  obtain ⟨c0, c1, c2, c3⟩ := spec_cellsI hs3
  clear hcg hb hs2 hb2 hh2
  go_wp2_with fail
  refine (may_below _ _ _ _ _).mono ?_
  rintro e w4 ⟨rfl, hb⟩
  rw [hmay]
  have hs4 := block_on hs3 hb
  have hb4 := hb3.trans (hb.mono hb3.size)
  clear c0 c1 c2 c3 hb hb3 hs3
  obtain ⟨c0, c1, c2, c3⟩ := spec_cellsI hs4
  go_wp2_with fail
  refine (shaped_any v l K _ (by omega) hl (HT.out.on hb4)).mono ?_
  rintro e w5 ⟨⟨b, rfl, _, hno⟩, rfl⟩
  obtain rfl := hno Hsh.out
  go_wp2
  go_ret2
  exact ⟨rfl, hb4⟩

set_option maxRecDepth 100000 in
set_option maxHeartbeats 2000000 in
theorem lawSpare_ok (K M O S : Nat) (v : Value) (l : List ByteArray) (w : World) (hK : 1 ≤ K ∧ K ≤ 20) (hM : 1 ≤ M ∧ M ≤ 20) (hO : 1 ≤ O ∧ O ≤ M) (hS : S ≤ 65535) (hsh : Shaped l K) (ht : TextsAt w v l) :
    Calls Tryz.prog 46 #[specV K M O S, v] w fun e w' => ∃ v', e = .returned (.tuple #[v', .bool true]) ∧ w'.ownsRow w.heap.size 9 1 v' M (textV (sparesOf K M O S l (l.getD 0 ByteArray.empty).size)) ∧ Below w.heap.size w w' := by
  have hmay : mayB K M O S = true := by simp [mayB]; omega
  have hlK := hsh.1
  have hl : l.length ≤ 8796093022208 := by omega
  have HT := hide ht
  have Hsh := hide hsh
  have HlK := hide hlK
  clear ht hsh hlK
  go_enter Tryz.func46, Tryz.ntmps46
  go_wp2_with fail
  refine (handed_any v l _ hl (HT.out.on ((Below.refl _ _).alloc (Nat.le_refl _) _))).mono ?_
  rintro e w1 ⟨g, rfl, hh, hg, hb⟩
  have hs1 := block_on (heap_alloc_new w _) hb
  have hb1 : Below w.heap.size w w1 := ((Below.refl _ _).alloc (Nat.le_refl _) _).trans (hb.mono (by simp))
  obtain ⟨c0, c1, c2, c3⟩ := spec_cellsI hs1
  clear hb hg
  go_wp2_with fail
  refine (spare_ok K M O S _ l _ hK hM hO hS Hsh.out hh.texts).mono ?_
  rintro e w2 ⟨v', rfl, hv, hb⟩
  have hs2 := block_on hs1 hb
  have hh2 := hh.on hb
  have hb2 := hb1.trans (hb.mono hb1.size)
  have hv2 := owns_base (base' := w.heap.size) hv (fun k e => by have := (hv.lt k e).1; have := hb1.size; omega)
  clear c0 c1 c2 c3 hs1 hb1 hb hh hv
  go_wp2_with fail
  refine (still_yes v l g _ hl hh2 (HT.out.on hb2)).mono ?_
  rintro e w3 ⟨rfl, hcg⟩
  have hb := hcg.below (fun _ _ x => x)
  have hs3 := block_on hs2 hb
  have hb3 := hb2.trans (hb.mono hb2.size)
  have hv3 := owns_below hv2 hb
  obtain ⟨c0, c1, c2, c3⟩ := spec_cellsI hs3
  clear hcg hb hs2 hb2 hh2 hv2
  go_wp2_with fail
  refine (may_below _ _ _ _ _).mono ?_
  rintro e w4 ⟨rfl, hb⟩
  rw [hmay]
  have hs4 := block_on hs3 hb
  have hb4 := hb3.trans (hb.mono hb3.size)
  have hv4 := owns_below hv3 hb
  clear c0 c1 c2 c3 hb hb3 hs3 hv3
  obtain ⟨c0, c1, c2, c3⟩ := spec_cellsI hs4
  go_wp2_with fail
  refine (shaped_any v l K _ (by omega) hl (HT.out.on hb4)).mono ?_
  rintro e w5 ⟨⟨b, rfl, hyes, _⟩, rfl⟩
  obtain rfl := hyes Hsh.out
  go_wp2_with fail
  refine (rword_ok K M O S v l _ hK hM hO hS Hsh.out (HT.out.on hb4)).mono ?_
  rintro e w6 ⟨vw, rfl, hw, hb⟩
  obtain ⟨gw, capw, rfl, _, _⟩ := hw.form (by omega)
  have hcp := owns_cap hw
  unfold maxLen at hcp
  have hs6 := block_on hs4 hb
  have hb6 := hb4.trans (hb.mono hb4.size)
  have hv6 := owns_below hv4 hb
  have hsuf := owns_suffix (K := K) hw (by rw [knownTo_length, HlK.out]) (by omega)
  have hsl : K + M - K = M := by omega
  rw [hsl] at hsuf
  have hsp : (knownTo l (rowOf K M O S) (l.getD 0 ByteArray.empty).size M).drop K = sparesOf K M O S l (l.getD 0 ByteArray.empty).size := by unfold sparesOf; rw [HlK.out]
  rw [hsp] at hsuf
  have hne : ¬ capw = K := by omega
  have hnk : ¬ capw - K = 0 := by omega
  clear c0 c1 c2 c3 hb hb4 hs4 hv4 hw hsp
  obtain ⟨c0, c1, c2, c3⟩ := spec_cellsI hs6
  go_wp2_with fail
  refine (sameTexts_yes _ _ _ _ (by rw [sparesOf_length]; omega) (owns_texts hv6 (by rw [sparesOf_length])) hsuf).mono ?_
  rintro e w7 ⟨rfl, hcg⟩
  have hb7 := Below.chg hb6 hb6.size hcg
  have hv7 := owns_below hv6 (hcg.below (fun _ _ x => x))
  clear c0 c1 c2 c3 hcg hb6 hv6 hsuf hs6
  go_wp2
  go_ret2
  exact ⟨v', rfl, hv7, hb7⟩

end Go.Proofs.YtnjaofkieajnlaaGreat
