/- The program's Send. -/
import Derived.Test.YtnjaofkieajnlaaPRoom
import Derived.Test.YtnjaofkieajnlaaSendE
namespace Go.Proofs.Ytnjaofkieajnlaa
open Go.RowKit

theorem maybe_below (K M O S : Int) (w : World) :
    Calls Try.prog 75 #[specV K M O S] w fun e w' => e = .returned (.bool (mayB K M O S)) ∧ Below w.heap.size w w' :=
  (maybe_any K M O S w).mono fun _ _ ⟨he, hw⟩ => ⟨he, by rw [hw]; exact (Below.refl _ _).alloc (Nat.le_refl _) _⟩

theorem objWord_split (K M O S z : Nat) (o : ByteArray) : cutTo (objT (K * z) o) z K ++ sparesOf K M O S (cutTo (objT (K * z) o) z K) z = objWord K M O S z o :=
  (knownTo_split _ _ _ _).symm

set_option maxRecDepth 100000 in
set_option maxHeartbeats 8000000 in
theorem osend_ok (K M O S z : Nat) (o : ByteArray) (w : World) (hK : 1 ≤ K ∧ K ≤ 20) (hM : 1 ≤ M ∧ M ≤ 20) (hO : 1 ≤ O ∧ O ≤ M) (hS : S ≤ 65535) (hz : 1 ≤ z ∧ z ≤ 16) (ho : o.size + 2 ≤ K * z) :
    Calls Try.prog 61 #[specV K M O S, .int .i64 (z : Int), .string o] w fun e w' => ∃ v, e = .returned (.tuple #[v, .int .i64 0]) ∧ w'.ownsRow w.heap.size 9 1 v (K + M) (textV (packTo K M O S z (objWord K M O S z o) (K + M))) ∧ Below w.heap.size w w' := by
  have hN2 : K * z ≤ 320 := Nat.le_trans (Nat.mul_le_mul hK.2 hz.2) (by decide)
  have hmul : (K : Int) * (z : Int) = ((K * z : Nat) : Int) := by simp
  have hm1 : 0 ≤ (K : Int) * (z : Int) := by rw [hmul]; omega
  have hm2 : (K : Int) * (z : Int) ≤ 320 := by rw [hmul]; omega
  have hc1 : ¬ (K : Int) * (z : Int) - 2 < (o.size : Int) := by rw [hmul]; omega
  have hma := fun W => maybe_below K M O S W
  have hmay : mayB K M O S = true := by simp [mayB]; omega
  rw [hmay] at hma
  have hds := cutTo_size (objT (K * z) o) z K (by rw [objT_size _ _ ho]; exact Nat.le_refl _)
  have hdl := cutTo_length (objT (K * z) o) z K
  obtain ⟨hsh, h0s⟩ := shape_made hdl (by omega) hds hz
  have hda := fun W => pdata_any K z (K * z) o W hz hK rfl ho
  have hwo := fun v W h => wspare_ok K M O S v (cutTo (objT (K * z) o) z K) W hK hM hO hS hsh h
  rw [h0s] at hwo
  have hPl : (objWord K M O S z o).length = K + M := by unfold objWord; rw [knownTo_length, hdl]
  have hPs : ∀ x ∈ objWord K M O S z o, x.size = z := knownTo_size hds M
  have hPe := objWord_split K M O S z o
  have hsl := sparesOf_length K M O S (cutTo (objT (K * z) o) z K) z
  clear h0s hsh hmul hds hmay
  generalize objWord K M O S z o = P at *
  generalize sparesOf K M O S (cutTo (objT (K * z) o) z K) z = Sp at *
  generalize cutTo (objT (K * z) o) z K = D at *
  have HPe := hide hPe
  clear hPe
  obtain ⟨j0, gi, gz0, gz1, gz2⟩ := info_parts Try.infoText
  have hsp : (w.alloc (specB K M O S)).heap[w.heap.size]? = some (specB K M O S) := heap_alloc_new w _
  have hbA : Below w.heap.size w (w.alloc (specB K M O S)) := (Below.refl _ _).alloc (Nat.le_refl _) _
  have hmk : ∀ w, (Instr.makeSlice 28 (.int .i64 0) (.int .i64 ((K : Int) + (M : Int)))).run Try.prog w = .ok (.slice (some ⟨w.heap.size, 0, none⟩) 0 (K + M)) (w.alloc (.cells (madeCells #[.string ByteArray.empty] (K + M)) 9)) := fun w => by
    have h := run_make_texts (K + M) (by omega) w
    rw [show ((K + M : Nat) : Int) = (K : Int) + (M : Int) from by omega] at h
    exact h
  go_enter Try.func61, Try.ntmps61
  go_wp2_with fail
  refine (hma _).mono ?_
  rintro e w1 ⟨rfl, hb1⟩
  have hs1 := block_on hsp hb1
  have hbw1 := hbA.trans (hb1.mono hbA.size)
  have hl1 := (Array.getElem?_eq_some_iff.1 hs1).1
  clear hsp hbA hb1 hma
  obtain ⟨c0, c1, c2, c3⟩ := spec_cells hs1
  have z1 : ¬ (z : Int) < 1 := by omega
  have z2 : ¬ (16 : Int) < (z : Int) := by omega
  go_wp2_with fail
  refine (room_any K z _ hK.2 hz.2).mono ?_
  rintro e w1r ⟨rfl, hr⟩
  obtain rfl := hr.symm
  go_wp2_with fail
  refine (hda _).mono ?_
  rintro e w2 ⟨v2, rfl, hown2, hb2⟩
  have hs2 := block_on hs1 hb2
  have hbw2 := hbw1.trans (hb2.mono hbw1.size)
  clear c0 c1 c2 c3 hs1 hda
  obtain ⟨c0, c1, c2, c3⟩ := spec_cells hs2
  go_wp2_with fail
  refine (hwo _ _ (owns_texts hown2 hdl.symm)).mono ?_
  rintro e w3 ⟨v3, rfl, hown3, hb3⟩
  have hs3 := block_on hs2 hb3
  have hbw3 := hbw2.trans (hb3.mono hbw2.size)
  have hownD := owns_below hown2 hb3
  clear c0 c1 c2 c3 hs2 hwo hown2
  obtain ⟨c0, c1, c2, c3⟩ := spec_cells hs3
  obtain ⟨gD, kD, rfl, hgD, hgDl⟩ := hownD.form (by omega)
  obtain ⟨gS, kS, rfl, hgS, hgSl⟩ := hown3.form (by omega)
  have hnews := hown3.cells (g := gS) rfl
  have HNw := hide hnews
  clear hnews
  have hwb := hbw1.size
  have hwb3 : w1.heap.size ≤ w3.heap.size := Nat.le_trans hb2.size hb3.size
  clear hb2 hb3 hbw2
  go_wp2_with (at_builtin; refine wpList_append_lies _ rfl (.tmp 45) (.tmp 46) 28 rfl w1.heap.size 9 j0 (.string ByteArray.empty) 1 16 Try.underlying28 gi gz0 gz1 gz2 rfl (by decide) _ _ _ rfl hownD ⟨gS, 0, none⟩ M kS (textV Sp) rfl (by rw [textV_length]; omega) HNw.out (textV_one Sp) (by omega) (by unfold maxLen; omega) (by omega) (by omega) w3.heap.size rfl ?_)
  intro g4 k4 w4 hown4 hgr4 hat4 hlt4
  have hb4 : Below w1.heap.size w3 w4 := below_ownS hownD hgr4 hwb3
  have hs4 := block_low hs3 hb4 hl1
  have hbw4 : Below w.heap.size w w4 := hbw3.trans (hb4.mono hwb)
  have hownP : w4.ownsRow w1.heap.size 9 1 (.slice (some ⟨g4, 0, none⟩) (K + M) k4) (K + M) (textV P) := by rw [← HPe.out, textV_append]; exact hown4
  clear hgr4 hat4 hown4 hownD hown3 HNw HPe c0 c1 c2 c3 hs3 hbw3 hb4 hwb3 hgS hgSl hgD hgDl
  have htx := owns_texts hownP hPl.symm
  have hTc : ∀ k, k < K + M → w4.cell? ⟨g4, k, none⟩ = some (.string (P.getD k ByteArray.empty)) := by
    obtain ⟨ao, cap', hv', _, hT⟩ := htx
    injection hv' with hv1 hv2 hv3
    intro k hk
    obtain ⟨q, o1, hq1, hq2, hq3⟩ := hT k (by omega)
    rw [hq1] at hv1
    injection hv1 with hv1
    injection hv1 with hb1 ho1
    subst hb1 ho1
    rw [Nat.zero_add] at hq3
    exact hq3
  have HT := hide hTc
  clear hTc htx hownP
  have hw4 := hbw4.size
  go_upto_region 13 with fail
  have hst : (w4.alloc (.cells (madeCells #[.string ByteArray.empty] (K + M)) 9)).ownsRow w4.heap.size 9 1 (.slice (some ⟨w4.heap.size, 0, none⟩) 0 (K + M)) 0 (textV (packTo K M O S z P 0)) := World.ownsRow_made (base := w4.heap.size) (e := 9) (size := 1) w4 (madeCells #[.string ByteArray.empty] (K + M)) (K + M) (Nat.le_refl _) (by unfold maxLen; omega) (by simp [size_madeCells])
  have hbS : Below w4.heap.size w4 (w4.alloc (.cells (madeCells #[.string ByteArray.empty] (K + M)) 9)) := (Below.refl _ _).alloc (Nat.le_refl _) _
  generalize w4.alloc (.cells (madeCells #[.string ByteArray.empty] (K + M)) 9) = W5 at *
  clear hmk
  go_wp2_with fail
  go_loopw [11, 53] (fun ov t wr => ∃ i : Nat, i ≤ K + M ∧ t = .int .i64 i ∧ wr.ownsRow w4.heap.size 9 1 ov i (textV (packTo K M O S z P i)) ∧ Below w4.heap.size w4 wr) (fun _ t _ => K + M - (intOf t).toNat)
  case atStart => exact ⟨0, Nat.zero_le _, rfl, hst, hbS⟩
  case round =>
    clear hst hbS
    obtain ⟨i, hiM, rfl, hown, hbr⟩ := hrel
    have hwr := hbr.size
    by_cases hlt : i < K + M
    · have hcl : wr.cell? ⟨g4, i, none⟩ = some (.string (P.getD i ByteArray.empty)) := by
        rw [← HT.out i hlt]; exact hbr.cell hlt4
      have hpm : P.getD i ByteArray.empty ∈ P := by
        rw [List.getD_eq_getElem?_getD, List.getElem?_eq_getElem (by omega)]; exact List.getElem_mem _
      have hps := hPs _ hpm
      have hpk : packTo K M O S z P (i + 1) = packTo K M O S z P i ++ [packB K M O S z i (P.getD i ByteArray.empty)] := rfl
      have Hpk := hide hpk
      clear hpk hpm
      generalize P.getD i ByteArray.empty = p at *
      obtain ⟨c0, c1, c2, c3⟩ := spec_cells (block_on hs4 hbr)
      go_wp2_with fail
      refine (ptext_any K M O S z i p wr hK.2 hM.2 (by omega) hS (by omega) (by omega) (by omega)).mono ?_
      rintro e w6 ⟨rfl, hb6⟩
      have hown6 := owns_below hown hb6
      have hbr6 := hbr.trans (hb6.mono hbr.size)
      have hw6 := hbr6.size
      clear hb6 hown hbr c0 c1 c2 c3 hcl
      generalize packB K M O S z i p = pk at *
      go_wp2_with (at_builtin; refine wpList_append_lies _ rfl (.tmp 64) (.tmp 66) 28 rfl w4.heap.size 9 j0 (.string ByteArray.empty) 1 16 Try.underlying28 gi gz0 gz1 gz2 rfl (by decide) _ _ _ rfl (hown6.alloc _) ⟨w6.heap.size, 0, none⟩ 1 1 [.string pk] rfl rfl (one_news _ _ _) (one_oneCell rfl) (by decide) (by unfold maxLen; omega) (by omega) (by simp; omega) (w6.heap.size + 1) (by simp) ?_)
      intro g7 cap7 w7 hown7 hgr7 hat7 hlt7
      have hb7 : Below w4.heap.size w4 w7 := hbr6.grown (grownBy_of_alloc hgr7) hbr6.size (fun k e => (hown6.lt k e).1)
      clear hown6 hbr6 hgr7 hat7
      go_wp2_with fail
      go_roundw
      case rel => exact ⟨i + 1, by omega, by go_num, by rw [Hpk.out, textV_append]; exact hown7, hb7⟩
      case measure => simp [intOf]; omega
    · have hii : i = K + M := by omega
      subst hii
      have hff := hbw4.trans (hbr.mono hw4)
      have hof := owns_low hown hw4
      have hcf : ¬ ((K + M : Nat) : Int) < (K : Int) + (M : Int) := by omega
      go_wp2_with fail
      go_ret2
      exact ⟨_, rfl, hof, hff⟩

set_option maxRecDepth 100000 in
set_option maxHeartbeats 4000000 in
theorem osend_bad (K M O S z : Int) (o : ByteArray) (w : World) (hmay : mayB K M O S = false) :
    Calls Try.prog 61 #[specV K M O S, .int .i64 z, .string o] w fun e w' => e = .returned (.tuple #[.slice none 0 0, .int .i64 1]) ∧ Below w.heap.size w w' := by
  have hma := fun W => maybe_below K M O S W
  rw [hmay] at hma
  have hbA : Below w.heap.size w (w.alloc (.cells #[.int .i64 K, .int .i64 M, .int .i64 O, .int .i64 S] 23)) := (Below.refl _ _).alloc (Nat.le_refl _) _
  go_enter Try.func61, Try.ntmps61
  go_wp2_with fail
  refine (hma _).mono ?_
  rintro e w1 ⟨rfl, hb1⟩
  have hbw1 := hbA.trans (hb1.mono hbA.size)
  go_wp2_with fail
  go_ret2
  exact ⟨rfl, hbw1⟩

set_option maxRecDepth 100000 in
set_option maxHeartbeats 4000000 in
theorem osend_arg (K M O S z : Int) (o : ByteArray) (w : World) (hmay : mayB K M O S = true) (hz : z < 1 ∨ (1 ≤ z ∧ 16 < z)) :
    Calls Try.prog 61 #[specV K M O S, .int .i64 z, .string o] w fun e w' => e = .returned (.tuple #[.slice none 0 0, .int .i64 2]) ∧ Below w.heap.size w w' := by
  have hma := fun W => maybe_below K M O S W
  rw [hmay] at hma
  have hbA : Below w.heap.size w (w.alloc (.cells #[.int .i64 K, .int .i64 M, .int .i64 O, .int .i64 S] 23)) := (Below.refl _ _).alloc (Nat.le_refl _) _
  rcases hz with hz | hz
  all_goals
    go_enter Try.func61, Try.ntmps61
    go_wp2_with fail
    refine (hma _).mono ?_
    rintro e w1 ⟨rfl, hb1⟩
    have hbw1 := hbA.trans (hb1.mono hbA.size)
    go_wp2_with fail
    go_ret2
    exact ⟨rfl, hbw1⟩

set_option maxRecDepth 100000 in
set_option maxHeartbeats 4000000 in
theorem osend_shape (K M O S z : Nat) (o : ByteArray) (w : World) (hmay : mayB K M O S = true) (hz : 1 ≤ z ∧ z ≤ 16) (ho : K * z < o.size + 2) :
    Calls Try.prog 61 #[specV K M O S, .int .i64 (z : Int), .string o] w fun e w' => e = .returned (.tuple #[.slice none 0 0, .int .i64 3]) ∧ Below w.heap.size w w' := by
  have hKK := mayB_true hmay
  have hK : 1 ≤ K ∧ K ≤ 20 := by omega
  clear hKK
  have hN2 : K * z ≤ 320 := Nat.le_trans (Nat.mul_le_mul hK.2 hz.2) (by decide)
  have hmul : (K : Int) * (z : Int) = ((K * z : Nat) : Int) := by simp
  have hm1 : 0 ≤ (K : Int) * (z : Int) := by rw [hmul]; omega
  have hm2 : (K : Int) * (z : Int) ≤ 320 := by rw [hmul]; omega
  have hc1 : (K : Int) * (z : Int) - 2 < (o.size : Int) := by rw [hmul]; omega
  clear hmul
  have hma := fun W => maybe_below K M O S W
  rw [hmay] at hma
  have hsp : (w.alloc (specB K M O S)).heap[w.heap.size]? = some (specB K M O S) := heap_alloc_new w _
  have hbA : Below w.heap.size w (w.alloc (specB K M O S)) := (Below.refl _ _).alloc (Nat.le_refl _) _
  go_enter Try.func61, Try.ntmps61
  go_wp2_with fail
  refine (hma _).mono ?_
  rintro e w1 ⟨rfl, hb1⟩
  have hs1 := block_on hsp hb1
  have hbw1 := hbA.trans (hb1.mono hbA.size)
  clear hsp hbA hb1 hma
  obtain ⟨c0, c1, c2, c3⟩ := spec_cells hs1
  have z1 : ¬ (z : Int) < 1 := by omega
  have z2 : ¬ (16 : Int) < (z : Int) := by omega
  go_wp2_with fail
  refine (room_any K z _ hK.2 hz.2).mono ?_
  rintro e w1r ⟨rfl, hr⟩
  obtain rfl := hr.symm
  go_wp2_with fail
  go_ret2
  exact ⟨rfl, hbw1⟩

set_option maxRecDepth 100000 in
set_option maxHeartbeats 4000000 in
theorem send_ok (K M O S z : Nat) (o : ByteArray) (w : World) (hK : 1 ≤ K ∧ K ≤ 20) (hM : 1 ≤ M ∧ M ≤ 20) (hO : 1 ≤ O ∧ O ≤ M) (hS : S ≤ 65535) (hz : 1 ≤ z ∧ z ≤ 16) (ho : o.size + 2 ≤ K * z) :
    Calls Try.prog 41 #[specV K M O S, .int .i64 (z : Int), .string o] w fun e w' => ∃ v, e = .returned (.tuple #[v, .int .i64 0]) ∧ w'.ownsRow w.heap.size 9 1 v (K + M) (textV (packTo K M O S z (objWord K M O S z o) (K + M))) ∧ Below w.heap.size w w' := by
  have hse := fun W => osend_ok K M O S z o W hK hM hO hS hz ho
  generalize packTo K M O S z (objWord K M O S z o) (K + M) = L at *
  have hbA : Below w.heap.size w (w.alloc (specB K M O S)) := (Below.refl _ _).alloc (Nat.le_refl _) _
  go_enter Try.func41, Try.ntmps41
  go_wp2_with fail
  refine (hse _).mono ?_
  rintro e w1 ⟨v, rfl, hown, hb1⟩
  have hown1 := owns_low hown hbA.size
  have hbw1 := hbA.trans (hb1.mono hbA.size)
  clear hown hse hbA hb1
  go_wp2_with fail
  go_ret2
  exact ⟨_, rfl, hown1, hbw1⟩

set_option maxRecDepth 100000 in
set_option maxHeartbeats 4000000 in
theorem send_err (K M O S z n : Int) (o : ByteArray) (w : World) (hse : ∀ W, Calls Try.prog 61 #[specV K M O S, .int .i64 z, .string o] W fun e w' => e = .returned (.tuple #[.slice none 0 0, .int .i64 n]) ∧ Below W.heap.size W w') :
    Calls Try.prog 41 #[specV K M O S, .int .i64 z, .string o] w fun e w' => e = .returned (.tuple #[.slice none 0 0, .int .i64 n]) ∧ Below w.heap.size w w' := by
  have hbA : Below w.heap.size w (w.alloc (.cells #[.int .i64 K, .int .i64 M, .int .i64 O, .int .i64 S] 23)) := (Below.refl _ _).alloc (Nat.le_refl _) _
  go_enter Try.func41, Try.ntmps41
  go_wp2_with fail
  refine (hse _).mono ?_
  rintro e w1 ⟨rfl, hb1⟩
  have hbw1 := hbA.trans (hb1.mono hbA.size)
  clear hse hbA hb1
  go_wp2_with fail
  go_ret2
  exact ⟨rfl, hbw1⟩

end Go.Proofs.Ytnjaofkieajnlaa
