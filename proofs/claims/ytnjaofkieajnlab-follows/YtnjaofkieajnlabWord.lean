/- The word that the statements make: data, and the spare pieces that the program gives for them. -/
import Derived.Test.YtnjaofkieajnlabPieces
namespace Go.Proofs.Ytnjaofkieajnlab
open Go.RowKit

theorem sparesOf_get (K M O S z i : Nat) (l : List ByteArray) (hi : i < M) : (sparesOf K M O S l z).getD i ByteArray.empty = sumB (knownTo l (rowOf K M O S) z i) (rowOf K M O S i) z := by
  unfold sparesOf
  rw [List.getD_eq_getElem?_getD, List.getElem?_drop, ← List.getD_eq_getElem?_getD, knownTo_get l _ z (i + 1) M _ (by omega) (by omega), knownTo_last]

set_option maxRecDepth 100000 in
set_option maxHeartbeats 4000000 in
theorem word_ok (K M O S z : Nat) (v : Value) (l : List ByteArray) (w : World) (hs : SpecOk K M O S z) (hl : l.length = K) (hls : ∀ x ∈ l, x.size = z) (ht : TextsAt w v l) :
    Calls Try.prog 9 #[specV K M O S, v] w fun e w' => ∃ v', e = .returned (.tuple #[v', .bool true]) ∧ w'.ownsRow w.heap.size 9 1 v' (K + M) (textV (knownTo l (rowOf K M O S) z M)) ∧ Below w.heap.size w w' := by
  obtain ⟨hK, hM, hO, hS, hz⟩ := hs
  have hget : ∀ k, k < l.length → (l.getD k ByteArray.empty).size = z := fun k hk => hls _ (by rw [List.getD_eq_getElem?_getD, List.getElem?_eq_getElem hk]; exact List.getElem_mem hk)
  have h0s := hget 0 (by omega)
  have hsh : Shaped l K := ⟨hl, fun k hk => by rw [hget k hk, h0s]; omega⟩
  have HT := hide ht
  have Hsh := hide hsh
  have Hls := hide hls
  obtain ⟨ao, cap, rfl, hcap, hc⟩ := ht
  obtain ⟨q, o, rfl, hq, hc0⟩ := hc 0 (by omega)
  have HC := hide (texts_cells hc rfl)
  subst hl
  obtain ⟨i0, hi, hz0, hz1, hz2⟩ := info_parts Try.infoText
  clear hsh hls hget hc
  go_enter Try.func9, Try.ntmps9
  go_wp2_with fail
  refine (spare_ok l.length M O S _ l _ hK hM hO hS Hsh.out (HT.out.on ((Below.refl _ _).alloc (Nat.le_refl _) _))).mono ?_
  rintro e w1 ⟨v', rfl, hv, hb⟩
  rw [h0s] at hv
  have hs1 := block_on (heap_alloc_new w _) hb
  have hb1 : Below w.heap.size w w1 := ((Below.refl _ _).alloc (Nat.le_refl _) _).trans (hb.mono (by simp))
  obtain ⟨c0, c1, c2, c3⟩ := spec_cellsI hs1
  obtain ⟨gv, cv, rfl, _, hgv⟩ := hv.form (by omega)
  have hnews : ∀ j u, (textV l)[j]? = some u → w1.cell? ((⟨q, o, none⟩ : Addr).add j) = some u := texts_news (fun k hk => by rw [hb1.cell (p := ⟨q, o + k, none⟩) hq]; exact HC.out k hk)
  have HN := hide hnews
  have hnil := World.ownsRow_nil w1 w1.heap.size 9 1
  clear hb hnews
  go_wp2_with (at_builtin; refine wpList_append_lies _ rfl (.tmp 26) (.tmp 27) 27 rfl w1.heap.size 9 i0 (.string ByteArray.empty) 1 16 Try.underlying27 hi hz0 hz1 hz2 rfl (by decide) _ _ _ rfl hnil ⟨q, o, none⟩ l.length cap (textV l) rfl (by rw [textV_length]; omega) HN.out (textV_one l) (by omega) (by unfold maxLen; omega) (by omega) (Nat.le_refl _) w1.heap.size rfl ?_)
  intro g9 cap9 w2 hown9 hgr9 hat9 hlt9
  have hb2 : Below w1.heap.size w1 w2 := (Below.refl _ _).grown hgr9 (Nat.le_refl _) (fun k e => by simp [Value.ownBlock] at e)
  have hst0 : w2.ownsRow w1.heap.size 9 1 (.slice (some ⟨g9, 0, none⟩) l.length cap9) (l.length + 0) (textV (knownTo l (rowOf l.length M O S) z 0)) := hown9
  clear hgr9 hat9 c0 c1 c2 c3 hown9 hnil
  go_wp2_with fail
  go_loopw [8, 31] (fun v8 t wr => ∃ i : Nat, i ≤ M ∧ t = .int .i64 i ∧ wr.ownsRow w1.heap.size 9 1 v8 (l.length + i) (textV (knownTo l (rowOf l.length M O S) z i)) ∧ Below w1.heap.size w1 wr) (fun _ t _ => M - (intOf t).toNat)
  case atStart => exact ⟨0, Nat.zero_le _, rfl, hst0, hb2⟩
  case round =>
    clear hst0 hb2
    obtain ⟨i, hiM, rfl, hown, hbel⟩ := hrel
    have hb3 := hb1.trans (hbel.mono hb1.size)
    by_cases hlt : i < M
    · obtain ⟨ao2, cp2, he2, hle2, hc3⟩ := (owns_texts hv (by rw [sparesOf_length])).on hbel
      obtain ⟨q2, o2, rfl, hq2, hc2⟩ := hc3 i (by rw [sparesOf_length]; exact hlt)
      simp at he2
      obtain ⟨⟨rfl, rfl⟩, hM3, rfl⟩ := he2
      clear hM3 hle2 hc3
      rw [sparesOf_get l.length M O S z i l hlt, Nat.zero_add] at hc2
      have hkl := knownTo_length l (rowOf l.length M O S) z i
      have hks : knownTo l (rowOf l.length M O S) z (i + 1) = knownTo l (rowOf l.length M O S) z i ++ [sumB (knownTo l (rowOf l.length M O S) z i) (rowOf l.length M O S i) z] := rfl
      have hps := sumB_size (knownTo_size (rows := rowOf l.length M O S) Hls.out i) (rowOf l.length M O S i)
      have Hks := hide hks
      clear hks
      generalize sumB (knownTo l (rowOf l.length M O S) z i) (rowOf l.length M O S i) z = p at *
      generalize knownTo l (rowOf l.length M O S) z i = kn at *
      have hd0 := (hb3.cell (p := ⟨q, o + 0, none⟩) hq).trans hc0
      simp only [Nat.add_zero] at hd0
      have hsz := hbel.size
      generalize l.getD 0 ByteArray.empty = p0 at *
      have hbn : ((p.size : Int) != (p0.size : Int)) = false := by simp; omega
      have Hps := hide hps
      have H0 := hide h0s
      clear hps h0s hc0
      go_wp2_with (at_builtin; refine wpList_append_lies _ rfl (.tmp 42) (.tmp 44) 27 rfl w1.heap.size 9 i0 (.string ByteArray.empty) 1 16 Try.underlying27 hi hz0 hz1 hz2 rfl (by decide) _ _ _ rfl (hown.alloc _) ⟨wr.heap.size, 0, none⟩ 1 1 [.string p] rfl rfl (one_news _ _ _) (one_oneCell rfl) (by decide) (by unfold maxLen; omega) (by omega) (by simp; omega) (wr.heap.size + 1) (by simp) ?_)
      intro gg cap3 w3 hown3 hgr hat3 hlt3
      have hb4 : Below w1.heap.size w1 w3 := (hbel.alloc hsz _).grown hgr (by simp; omega) (fun q hq => (hown.lt q hq).1)
      clear hgr hat3 hbel hown hc2 hd0
      go_wp2
      go_roundw
      case rel => exact ⟨i + 1, by omega, by go_num, by rw [Hks.out, textV_append]; exact hown3, hb4⟩
      case measure => simp [intOf]; omega
    · have hiM2 : i = M := by omega
      subst hiM2
      have hown2 := owns_base (base' := w.heap.size) hown (fun k e => by have := (hown.lt k e).1; have := hb1.size; omega)
      clear hown
      go_wp2
      go_ret2
      exact ⟨_, rfl, hown2, hb3⟩

end Go.Proofs.Ytnjaofkieajnlab
