/- Texts of the proof, part 11. -/
import Derived.Laws.OwnMore
import Derived.Test.YtnjaofkieajnlaaGreatAlluptoG0
import Derived.Test.YtnjaofkieajnlaaGreatAlluptoG3
import Derived.Test.YtnjaofkieajnlaaGreatAlluptoG9

/- The program's Send. -/
namespace Go.Proofs.YtnjaofkieajnlaaGreat
open Go.RowKit

theorem maybe_below (K M O S : Int) (w : World) :
    Calls Tryz.prog 111 #[specV K M O S] w fun e w' => e = .returned (.bool (mayB K M O S)) ∧ Below w.heap.size w w' :=
  (maybe_any K M O S w).mono fun _ _ ⟨he, hw⟩ => ⟨he, by rw [hw]; exact (Below.refl _ _).alloc (Nat.le_refl _) _⟩

theorem objWord_split (K M O S z : Nat) (o : ByteArray) : cutTo (objT (K * z) o) z K ++ sparesOf K M O S (cutTo (objT (K * z) o) z K) z = objWord K M O S z o :=
  (knownTo_split _ _ _ _).symm

set_option maxRecDepth 100000 in
set_option maxHeartbeats 8000000 in
theorem osend_ok (K M O S z : Nat) (o : ByteArray) (w : World) (hK : 1 ≤ K ∧ K ≤ 20) (hM : 1 ≤ M ∧ M ≤ 20) (hO : 1 ≤ O ∧ O ≤ M) (hS : S ≤ 65535) (hz : 1 ≤ z ∧ z ≤ 16) (ho : o.size + 2 ≤ K * z) :
    Calls Tryz.prog 106 #[specV K M O S, .int .i64 (z : Int), .string o] w fun e w' => ∃ v, e = .returned (.tuple #[v, .int .i64 0]) ∧ w'.ownsRow w.heap.size 9 1 v (K + M) (textV (packTo K M O S z (objWord K M O S z o) (K + M))) ∧ Below w.heap.size w w' := by
  have hN2 : K * z ≤ 320 := Nat.le_trans (Nat.mul_le_mul hK.2 hz.2) (by decide)
  have hmul : (K : Int) * (z : Int) = ((K * z : Nat) : Int) := by simp
  have hm1 : 0 ≤ (K : Int) * (z : Int) := by rw [hmul]; omega
  have hm2 : (K : Int) * (z : Int) ≤ 320 := by rw [hmul]; omega
  have hc1 : ¬ (K : Int) * (z : Int) - 2 < (o.size : Int) := by rw [hmul]; omega
  have hma := fun W => maybe_below K M O S W
  have hmay : mayB K M O S = true := by simp [mayB]; omega
  rw [hmay] at hma
  have hds := cutTo_size (objT (K * z) o) z K (by rw [objT_size _ _ ho]; exact Nat.le_refl _)
  have hdl := cutTo_length (objT (K * z) o) z K
  obtain ⟨hsh, h0s⟩ := shape_made hdl (by omega) hds hz
  have hda := fun W => pdata_any K z (K * z) o W hz hK rfl ho
  have hwo := fun v W h => wspare_ok K M O S v (cutTo (objT (K * z) o) z K) W hK hM hO hS hsh h
  rw [h0s] at hwo
  have hPl : (objWord K M O S z o).length = K + M := by unfold objWord; rw [knownTo_length, hdl]
  have hPs : ∀ x ∈ objWord K M O S z o, x.size = z := knownTo_size hds M
  have hPe := objWord_split K M O S z o
  have hsl := sparesOf_length K M O S (cutTo (objT (K * z) o) z K) z
  clear h0s hsh hmul hds hmay
  generalize objWord K M O S z o = P at *
  generalize sparesOf K M O S (cutTo (objT (K * z) o) z K) z = Sp at *
  generalize cutTo (objT (K * z) o) z K = D at *
  have HPe := hide hPe
  clear hPe
  obtain ⟨j0, gi, gz0, gz1, gz2⟩ := info_parts Tryz.infoText
  have hsp : (w.alloc (specB K M O S)).heap[w.heap.size]? = some (specB K M O S) := heap_alloc_new w _
  have hbA : Below w.heap.size w (w.alloc (specB K M O S)) := (Below.refl _ _).alloc (Nat.le_refl _) _
  have hmk : ∀ w, (Instr.makeSlice 27 (.int .i64 0) (.int .i64 ((K : Int) + (M : Int)))).run Tryz.prog w = .ok (.slice (some ⟨w.heap.size, 0, none⟩) 0 (K + M)) (w.alloc (.cells (madeCells #[.string ByteArray.empty] (K + M)) 9)) := fun w => by
    have h := run_make_texts (K + M) (by omega) w
    rw [show ((K + M : Nat) : Int) = (K : Int) + (M : Int) from by omega] at h
    exact h
  go_enter Tryz.func106, Tryz.ntmps106
  go_wp2_with fail
  refine (hma _).mono ?_
  rintro e w1 ⟨rfl, hb1⟩
  have hs1 := block_on hsp hb1
  have hbw1 := hbA.trans (hb1.mono hbA.size)
  have hl1 := (Array.getElem?_eq_some_iff.1 hs1).1
  clear hsp hbA hb1 hma
  obtain ⟨c0, c1, c2, c3⟩ := spec_cells hs1
  have z1 : ¬ (z : Int) < 1 := by omega
  have z2 : ¬ (16 : Int) < (z : Int) := by omega
  go_wp2_with fail
  refine (room_any K z _ hK.2 hz.2).mono ?_
  rintro e w1r ⟨rfl, hr⟩
  obtain rfl := hr.symm
  go_wp2_with fail
  refine (hda _).mono ?_
  rintro e w2 ⟨v2, rfl, hown2, hb2⟩
  have hs2 := block_on hs1 hb2
  have hbw2 := hbw1.trans (hb2.mono hbw1.size)
  clear c0 c1 c2 c3 hs1 hda
  obtain ⟨c0, c1, c2, c3⟩ := spec_cells hs2
  go_wp2_with fail
  refine (hwo _ _ (owns_texts hown2 hdl.symm)).mono ?_
  rintro e w3 ⟨v3, rfl, hown3, hb3⟩
  have hs3 := block_on hs2 hb3
  have hbw3 := hbw2.trans (hb3.mono hbw2.size)
  have hownD := owns_below hown2 hb3
  clear c0 c1 c2 c3 hs2 hwo hown2
  obtain ⟨c0, c1, c2, c3⟩ := spec_cells hs3
  obtain ⟨gD, kD, rfl, hgD, hgDl⟩ := hownD.form (by omega)
  obtain ⟨gS, kS, rfl, hgS, hgSl⟩ := hown3.form (by omega)
  have hnews := hown3.cells (g := gS) rfl
  have HNw := hide hnews
  clear hnews
  have hwb := hbw1.size
  have hwb3 : w1.heap.size ≤ w3.heap.size := Nat.le_trans hb2.size hb3.size
  clear hb2 hb3 hbw2
  go_wp2_with (at_builtin; refine wpList_append_lies _ rfl (.tmp 45) (.tmp 46) 27 rfl w1.heap.size 9 j0 (.string ByteArray.empty) 1 16 Tryz.underlying27 gi gz0 gz1 gz2 rfl (by decide) _ _ _ rfl hownD ⟨gS, 0, none⟩ M kS (textV Sp) rfl (by rw [textV_length]; omega) HNw.out (textV_one Sp) (by omega) (by unfold maxLen; omega) (by omega) (by omega) w3.heap.size rfl ?_)
  intro g4 k4 w4 hown4 hgr4 hat4 hlt4
  have hb4 : Below w1.heap.size w3 w4 := below_ownS hownD hgr4 hwb3
  have hs4 := block_low hs3 hb4 hl1
  have hbw4 : Below w.heap.size w w4 := hbw3.trans (hb4.mono hwb)
  have hownP : w4.ownsRow w1.heap.size 9 1 (.slice (some ⟨g4, 0, none⟩) (K + M) k4) (K + M) (textV P) := by rw [← HPe.out, textV_append]; exact hown4
  clear hgr4 hat4 hown4 hownD hown3 HNw HPe c0 c1 c2 c3 hs3 hbw3 hb4 hwb3 hgS hgSl hgD hgDl
  have htx := owns_texts hownP hPl.symm
  have hTc : ∀ k, k < K + M → w4.cell? ⟨g4, k, none⟩ = some (.string (P.getD k ByteArray.empty)) := by
    obtain ⟨ao, cap', hv', _, hT⟩ := htx
    injection hv' with hv1 hv2 hv3
    intro k hk
    obtain ⟨q, o1, hq1, hq2, hq3⟩ := hT k (by omega)
    rw [hq1] at hv1
    injection hv1 with hv1
    injection hv1 with hb1 ho1
    subst hb1 ho1
    rw [Nat.zero_add] at hq3
    exact hq3
  have HT := hide hTc
  clear hTc htx hownP
  have hw4 := hbw4.size
  go_upto_region 13 with fail
  have hst : (w4.alloc (.cells (madeCells #[.string ByteArray.empty] (K + M)) 9)).ownsRow w4.heap.size 9 1 (.slice (some ⟨w4.heap.size, 0, none⟩) 0 (K + M)) 0 (textV (packTo K M O S z P 0)) := World.ownsRow_made (base := w4.heap.size) (e := 9) (size := 1) w4 (madeCells #[.string ByteArray.empty] (K + M)) (K + M) (Nat.le_refl _) (by unfold maxLen; omega) (by simp [size_madeCells])
  have hbS : Below w4.heap.size w4 (w4.alloc (.cells (madeCells #[.string ByteArray.empty] (K + M)) 9)) := (Below.refl _ _).alloc (Nat.le_refl _) _
  generalize w4.alloc (.cells (madeCells #[.string ByteArray.empty] (K + M)) 9) = W5 at *
  clear hmk
  go_wp2_with fail
  go_loopw [11, 53] (fun ov t wr => ∃ i : Nat, i ≤ K + M ∧ t = .int .i64 i ∧ wr.ownsRow w4.heap.size 9 1 ov i (textV (packTo K M O S z P i)) ∧ Below w4.heap.size w4 wr) (fun _ t _ => K + M - (intOf t).toNat)
  case atStart => exact ⟨0, Nat.zero_le _, rfl, hst, hbS⟩
  case round =>
    clear hst hbS
    obtain ⟨i, hiM, rfl, hown, hbr⟩ := hrel
    have hwr := hbr.size
    by_cases hlt : i < K + M
    · have hcl : wr.cell? ⟨g4, i, none⟩ = some (.string (P.getD i ByteArray.empty)) := by
        rw [← HT.out i hlt]; exact hbr.cell hlt4
      have hpm : P.getD i ByteArray.empty ∈ P := by
        rw [List.getD_eq_getElem?_getD, List.getElem?_eq_getElem (by omega)]; exact List.getElem_mem _
      have hps := hPs _ hpm
      have hpk : packTo K M O S z P (i + 1) = packTo K M O S z P i ++ [packB K M O S z i (P.getD i ByteArray.empty)] := rfl
      have Hpk := hide hpk
      clear hpk hpm
      generalize P.getD i ByteArray.empty = p at *
      obtain ⟨c0, c1, c2, c3⟩ := spec_cells (block_on hs4 hbr)
      go_wp2_with fail
      refine (ptext_any K M O S z i p wr hK.2 hM.2 (by omega) hS (by omega) (by omega) (by omega)).mono ?_
      rintro e w6 ⟨rfl, hb6⟩
      have hown6 := owns_below hown hb6
      have hbr6 := hbr.trans (hb6.mono hbr.size)
      have hw6 := hbr6.size
      clear hb6 hown hbr c0 c1 c2 c3 hcl
      generalize packB K M O S z i p = pk at *
      go_wp2_with (at_builtin; refine wpList_append_lies _ rfl (.tmp 64) (.tmp 66) 27 rfl w4.heap.size 9 j0 (.string ByteArray.empty) 1 16 Tryz.underlying27 gi gz0 gz1 gz2 rfl (by decide) _ _ _ rfl (hown6.alloc _) ⟨w6.heap.size, 0, none⟩ 1 1 [.string pk] rfl rfl (one_news _ _ _) (one_oneCell rfl) (by decide) (by unfold maxLen; omega) (by omega) (by simp; omega) (w6.heap.size + 1) (by simp) ?_)
      intro g7 cap7 w7 hown7 hgr7 hat7 hlt7
      have hb7 : Below w4.heap.size w4 w7 := hbr6.grown (grownBy_of_alloc hgr7) hbr6.size (fun k e => (hown6.lt k e).1)
      clear hown6 hbr6 hgr7 hat7
      go_wp2_with fail
      go_roundw
      case rel => exact ⟨i + 1, by omega, by go_num, by rw [Hpk.out, textV_append]; exact hown7, hb7⟩
      case measure => simp [intOf]; omega
    · have hii : i = K + M := by omega
      subst hii
      have hff := hbw4.trans (hbr.mono hw4)
      have hof := owns_low hown hw4
      have hcf : ¬ ((K + M : Nat) : Int) < (K : Int) + (M : Int) := by omega
      go_wp2_with fail
      go_ret2
      exact ⟨_, rfl, hof, hff⟩

set_option maxRecDepth 100000 in
set_option maxHeartbeats 4000000 in
theorem osend_bad (K M O S z : Int) (o : ByteArray) (w : World) (hmay : mayB K M O S = false) :
    Calls Tryz.prog 106 #[specV K M O S, .int .i64 z, .string o] w fun e w' => e = .returned (.tuple #[.slice none 0 0, .int .i64 1]) ∧ Below w.heap.size w w' := by
  have hma := fun W => maybe_below K M O S W
  rw [hmay] at hma
  have hbA : Below w.heap.size w (w.alloc (.cells #[.int .i64 K, .int .i64 M, .int .i64 O, .int .i64 S] 25)) := (Below.refl _ _).alloc (Nat.le_refl _) _
  go_enter Tryz.func106, Tryz.ntmps106
  go_wp2_with fail
  refine (hma _).mono ?_
  rintro e w1 ⟨rfl, hb1⟩
  have hbw1 := hbA.trans (hb1.mono hbA.size)
  go_wp2_with fail
  go_ret2
  exact ⟨rfl, hbw1⟩

set_option maxRecDepth 100000 in
set_option maxHeartbeats 4000000 in
theorem osend_arg (K M O S z : Int) (o : ByteArray) (w : World) (hmay : mayB K M O S = true) (hz : z < 1 ∨ (1 ≤ z ∧ 16 < z)) :
    Calls Tryz.prog 106 #[specV K M O S, .int .i64 z, .string o] w fun e w' => e = .returned (.tuple #[.slice none 0 0, .int .i64 2]) ∧ Below w.heap.size w w' := by
  have hma := fun W => maybe_below K M O S W
  rw [hmay] at hma
  have hbA : Below w.heap.size w (w.alloc (.cells #[.int .i64 K, .int .i64 M, .int .i64 O, .int .i64 S] 25)) := (Below.refl _ _).alloc (Nat.le_refl _) _
  rcases hz with hz | hz
  all_goals
    go_enter Tryz.func106, Tryz.ntmps106
    go_wp2_with fail
    refine (hma _).mono ?_
    rintro e w1 ⟨rfl, hb1⟩
    have hbw1 := hbA.trans (hb1.mono hbA.size)
    go_wp2_with fail
    go_ret2
    exact ⟨rfl, hbw1⟩

set_option maxRecDepth 100000 in
set_option maxHeartbeats 4000000 in
theorem osend_shape (K M O S z : Nat) (o : ByteArray) (w : World) (hmay : mayB K M O S = true) (hz : 1 ≤ z ∧ z ≤ 16) (ho : K * z < o.size + 2) :
    Calls Tryz.prog 106 #[specV K M O S, .int .i64 (z : Int), .string o] w fun e w' => e = .returned (.tuple #[.slice none 0 0, .int .i64 3]) ∧ Below w.heap.size w w' := by
  have hKK := mayB_true hmay
  have hK : 1 ≤ K ∧ K ≤ 20 := by omega
  clear hKK
  have hN2 : K * z ≤ 320 := Nat.le_trans (Nat.mul_le_mul hK.2 hz.2) (by decide)
  have hmul : (K : Int) * (z : Int) = ((K * z : Nat) : Int) := by simp
  have hm1 : 0 ≤ (K : Int) * (z : Int) := by rw [hmul]; omega
  have hm2 : (K : Int) * (z : Int) ≤ 320 := by rw [hmul]; omega
  have hc1 : (K : Int) * (z : Int) - 2 < (o.size : Int) := by rw [hmul]; omega
  clear hmul
  have hma := fun W => maybe_below K M O S W
  rw [hmay] at hma
  have hsp : (w.alloc (specB K M O S)).heap[w.heap.size]? = some (specB K M O S) := heap_alloc_new w _
  have hbA : Below w.heap.size w (w.alloc (specB K M O S)) := (Below.refl _ _).alloc (Nat.le_refl _) _
  go_enter Tryz.func106, Tryz.ntmps106
  go_wp2_with fail
  refine (hma _).mono ?_
  rintro e w1 ⟨rfl, hb1⟩
  have hs1 := block_on hsp hb1
  have hbw1 := hbA.trans (hb1.mono hbA.size)
  clear hsp hbA hb1 hma
  obtain ⟨c0, c1, c2, c3⟩ := spec_cells hs1
  have z1 : ¬ (z : Int) < 1 := by omega
  have z2 : ¬ (16 : Int) < (z : Int) := by omega
  go_wp2_with fail
  refine (room_any K z _ hK.2 hz.2).mono ?_
  rintro e w1r ⟨rfl, hr⟩
  obtain rfl := hr.symm
  go_wp2_with fail
  go_ret2
  exact ⟨rfl, hbw1⟩

set_option maxRecDepth 100000 in
set_option maxHeartbeats 4000000 in
theorem send_ok (K M O S z : Nat) (o : ByteArray) (w : World) (hK : 1 ≤ K ∧ K ≤ 20) (hM : 1 ≤ M ∧ M ≤ 20) (hO : 1 ≤ O ∧ O ≤ M) (hS : S ≤ 65535) (hz : 1 ≤ z ∧ z ≤ 16) (ho : o.size + 2 ≤ K * z) :
    Calls Tryz.prog 77 #[specV K M O S, .int .i64 (z : Int), .string o] w fun e w' => ∃ v, e = .returned (.tuple #[v, .int .i64 0]) ∧ w'.ownsRow w.heap.size 9 1 v (K + M) (textV (packTo K M O S z (objWord K M O S z o) (K + M))) ∧ Below w.heap.size w w' := by
  have hse := fun W => osend_ok K M O S z o W hK hM hO hS hz ho
  generalize packTo K M O S z (objWord K M O S z o) (K + M) = L at *
  have hbA : Below w.heap.size w (w.alloc (specB K M O S)) := (Below.refl _ _).alloc (Nat.le_refl _) _
  go_enter Tryz.func77, Tryz.ntmps77
  go_wp2_with fail
  refine (hse _).mono ?_
  rintro e w1 ⟨v, rfl, hown, hb1⟩
  have hown1 := owns_low hown hbA.size
  have hbw1 := hbA.trans (hb1.mono hbA.size)
  clear hown hse hbA hb1
  go_wp2_with fail
  go_ret2
  exact ⟨_, rfl, hown1, hbw1⟩

set_option maxRecDepth 100000 in
set_option maxHeartbeats 4000000 in
theorem send_err (K M O S z n : Int) (o : ByteArray) (w : World) (hse : ∀ W, Calls Tryz.prog 106 #[specV K M O S, .int .i64 z, .string o] W fun e w' => e = .returned (.tuple #[.slice none 0 0, .int .i64 n]) ∧ Below W.heap.size W w') :
    Calls Tryz.prog 77 #[specV K M O S, .int .i64 z, .string o] w fun e w' => e = .returned (.tuple #[.slice none 0 0, .int .i64 n]) ∧ Below w.heap.size w w' := by
  have hbA : Below w.heap.size w (w.alloc (.cells #[.int .i64 K, .int .i64 M, .int .i64 O, .int .i64 S] 25)) := (Below.refl _ _).alloc (Nat.le_refl _) _
  go_enter Tryz.func77, Tryz.ntmps77
  go_wp2_with fail
  refine (hse _).mono ?_
  rintro e w1 ⟨rfl, hb1⟩
  have hbw1 := hbA.trans (hb1.mono hbA.size)
  clear hse hbA hb1
  go_wp2_with fail
  go_ret2
  exact ⟨rfl, hbw1⟩

end Go.Proofs.YtnjaofkieajnlaaGreat

/- Packets of a word's pieces, and an object's word: plain facts. -/
namespace Go.Proofs.YtnjaofkieajnlaaGreat

theorem packB_size (K M O S z i : Nat) (q : ByteArray) : (packB K M O S z i q).size = 9 + q.size := by
  unfold packB
  rw [ByteArray.size_append, packT_size]
  show 8 + q.size + 1 = _
  omega

theorem cutTo_getD (t : ByteArray) (z n j : Nat) (h : j < n) : (cutTo t z n).getD j ByteArray.empty = t.extract (j * z) (j * z + z) := by
  induction n with
  | zero => omega
  | succ n ih =>
    show (cutTo t z n ++ [t.extract (n * z) (n * z + z)]).getD j ByteArray.empty = _
    rw [List.getD_eq_getElem?_getD]
    by_cases e : j < n
    · rw [List.getElem?_append_left (by rw [cutTo_length]; exact e), ← List.getD_eq_getElem?_getD]; exact ih e
    · have : j = n := by omega
      subst this
      rw [List.getElem?_append_right (by rw [cutTo_length]; exact Nat.le_refl _), cutTo_length, Nat.sub_self]; rfl

theorem knownTo_getD (data : List ByteArray) (rows : Nat → List Nat) (z n j : Nat) (h : j < data.length) : (knownTo data rows z n).getD j ByteArray.empty = data.getD j ByteArray.empty := by
  induction n with
  | zero => rfl
  | succ n ih =>
    show (knownTo data rows z n ++ [_]).getD j ByteArray.empty = _
    rw [List.getD_eq_getElem?_getD, List.getElem?_append_left (by rw [knownTo_length]; omega), ← List.getD_eq_getElem?_getD]; exact ih

theorem packTo_getD (K M O S z : Nat) (P : List ByteArray) (n j : Nat) (h : j < n) : (packTo K M O S z P n).getD j ByteArray.empty = packB K M O S z j (P.getD j ByteArray.empty) := by
  induction n with
  | zero => omega
  | succ n ih =>
    show (packTo K M O S z P n ++ [packB K M O S z n (P.getD n ByteArray.empty)]).getD j ByteArray.empty = _
    rw [List.getD_eq_getElem?_getD]
    by_cases e : j < n
    · rw [List.getElem?_append_left (by rw [packTo_length]; exact e), ← List.getD_eq_getElem?_getD]; exact ih e
    · have : j = n := by omega
      subst this
      rw [List.getElem?_append_right (by rw [packTo_length]; exact Nat.le_refl _), packTo_length, Nat.sub_self]; rfl

theorem objWord_is {K M O S z : Nat} (o : ByteArray) (h : o.size + 2 ≤ K * z) : IsWord K M O S z (objWord K M O S z o) := by
  have hs := objT_size (K * z) o h
  have hc := cutTo_size (objT (K * z) o) z K (by rw [hs]; exact Nat.le_refl _)
  exact ⟨by unfold objWord; rw [knownTo_length, cutTo_length], knownTo_size hc M, fun i hi => known_fits K M O S _ z hc (cutTo_length _ _ _) i hi⟩

theorem objWord_data {K M O S z : Nat} (o : ByteArray) {j : Nat} (hj : j < K) : (objWord K M O S z o).getD j ByteArray.empty = (objT (K * z) o).extract (j * z) (j * z + z) := by
  unfold objWord
  rw [knownTo_getD _ _ _ _ _ (by rw [cutTo_length]; exact hj), cutTo_getD _ _ _ _ hj]

theorem packTo_sizes {K M O S z : Nat} {o : ByteArray} (h : o.size + 2 ≤ K * z) {i : Nat} (hi : i < K + M) : ((packTo K M O S z (objWord K M O S z o) (K + M)).getD i ByteArray.empty).size = 9 + z := by
  rw [packTo_getD _ _ _ _ _ _ _ _ hi, packB_size, (objWord_is o h).at_size hi]

end Go.Proofs.YtnjaofkieajnlaaGreat

/- A large object as plain mathematics: its parts, its sheets, the order that is drawn. -/
namespace Go.Proofs.YtnjaofkieajnlaaGreat

/-- How many parts, for parts of n bytes. -/
def partsN (t : ByteArray) (n : Nat) : Nat := if t.size = 0 then 1 else (t.size + n - 1) / n

/-- The part at p. -/
def partT (t : ByteArray) (n p : Nat) : ByteArray := t.extract (p * n) (if t.size < p * n + n then t.size else p * n + n)

/-- A sheet. -/
def sheetB (p c : Nat) (k : ByteArray) : ByteArray := ⟨#[83]⟩ ++ ⟨#[UInt8.ofNat p, UInt8.ofNat c]⟩ ++ k

/-- The sheets of the first packets of a part. -/
def sheetTo (p c : Nat) (L : List ByteArray) : Nat → List ByteArray
  | 0 => []
  | i + 1 => sheetTo p c L i ++ [sheetB p c (L.getD i ByteArray.empty)]

/-- The packets of a part. -/
def partL (K M O S z : Nat) (t : ByteArray) (p : Nat) : List ByteArray := packTo K M O S z (objWord K M O S z (partT t (K * z - 2) p)) (K + M)

/-- The sheets of the first parts. -/
def sheetsTo (K M O S z c : Nat) (t : ByteArray) : Nat → List ByteArray
  | 0 => []
  | p + 1 => sheetsTo K M O S z c t p ++ sheetTo p c (partL K M O S z t p) (K + M)

theorem sheetTo_length (p c : Nat) (L : List ByteArray) (i : Nat) : (sheetTo p c L i).length = i := by
  induction i with
  | zero => rfl
  | succ i ih => show (sheetTo p c L i ++ [_]).length = _; rw [List.length_append, ih]; rfl

theorem sheetsTo_length (K M O S z c : Nat) (t : ByteArray) (p : Nat) : (sheetsTo K M O S z c t p).length = p * (K + M) := by
  induction p with
  | zero => simp [sheetsTo]
  | succ p ih => show (sheetsTo K M O S z c t p ++ _).length = _; rw [List.length_append, ih, sheetTo_length, Nat.succ_mul]

theorem partsN_pos (t : ByteArray) (n : Nat) (hn : 1 ≤ n) : 1 ≤ partsN t n := by
  unfold partsN
  split
  · exact Nat.le_refl _
  · rename_i h
    exact (Nat.le_div_iff_mul_le (by omega)).2 (by omega)

/-- A part lies within the text. -/
theorem partT_in (t : ByteArray) (n p : Nat) (hn : 1 ≤ n) (hp : p < partsN t n) : p * n ≤ t.size ∧ (partT t n p).size ≤ n := by
  have h1 : p * n ≤ t.size := by
    unfold partsN at hp
    split at hp
    · have : p = 0 := by omega
      subst this; simp
    · rename_i h
      have := (Nat.lt_div_iff_mul_lt (by omega)).1 hp
      omega
  refine ⟨h1, ?_⟩
  unfold partT
  rw [ByteArray.size_extract]
  split <;> omega

/-- Two places change. -/
def swapL {α : Type} (l : List α) (d : α) (i j : Nat) : List α := (l.set i (l.getD j d)).set j (l.getD i d)

theorem swapL_length {α : Type} (l : List α) (d : α) (i j : Nat) : (swapL l d i j).length = l.length := by simp [swapL]

/-- The order that is drawn, from place i down. -/
def mixFrom {α : Type} (d : α) (x : Nat) (l : List α) : Nat → List α
  | 0 => l
  | i + 1 => mixFrom d (nxt x) (swapL l d (i + 1) (nxt x % (i + 2))) i

theorem mixFrom_length {α : Type} (d : α) (x : Nat) (l : List α) (i : Nat) : (mixFrom d x l i).length = l.length := by
  induction i generalizing x l with
  | zero => rfl
  | succ i ih => show (mixFrom d (nxt x) _ i).length = _; rw [ih, swapL_length]

theorem getD_map_lt {α β : Type} (f : α → β) (l : List α) (a : α) (b : β) (i : Nat) (h : i < l.length) : (l.map f).getD i b = f (l.getD i a) := by
  rw [List.getD_eq_getElem?_getD, List.getD_eq_getElem?_getD, List.getElem?_map, List.getElem?_eq_getElem h]; rfl

theorem swapL_map {α β : Type} (f : α → β) (l : List α) (a : α) (b : β) (i j : Nat) (hi : i < l.length) (hj : j < l.length) : (swapL l a i j).map f = swapL (l.map f) b i j := by
  unfold swapL
  rw [List.map_set, List.map_set, getD_map_lt f l a b i hi, getD_map_lt f l a b j hj]

/-- To draw numbers, or what stands there: no matter. -/
theorem mixFrom_map {α β : Type} (f : α → β) (a : α) (b : β) (x : Nat) (l : List α) (i : Nat) (hi : i < l.length ∨ i = 0) : (mixFrom a x l i).map f = mixFrom b x (l.map f) i := by
  induction i generalizing x l with
  | zero => rfl
  | succ i ih =>
    have hi' : i + 1 < l.length := by omega
    have hm := Nat.mod_lt (nxt x) (show 0 < i + 2 by omega)
    show (mixFrom a (nxt x) (swapL l a (i + 1) (nxt x % (i + 2))) i).map f = mixFrom b (nxt x) (swapL (l.map f) b (i + 1) (nxt x % (i + 2))) i
    rw [ih _ _ (by rw [swapL_length]; omega), swapL_map f l a b _ _ hi' (by omega)]

theorem mem_swapL {α : Type} (l : List α) (d : α) (i j : Nat) (hi : i < l.length) (hj : j < l.length) (x : α) (h : x ∈ swapL l d i j) : x ∈ l := by
  unfold swapL at h
  rcases List.mem_or_eq_of_mem_set h with h | h
  · rcases List.mem_or_eq_of_mem_set h with h | h
    · exact h
    · rw [h, List.getD_eq_getElem?_getD, List.getElem?_eq_getElem hj]; exact List.getElem_mem _
  · rw [h, List.getD_eq_getElem?_getD, List.getElem?_eq_getElem hi]; exact List.getElem_mem _

theorem mem_mixFrom {α : Type} (d : α) (x : Nat) (l : List α) (i : Nat) (hi : i < l.length ∨ i = 0) (y : α) (h : y ∈ mixFrom d x l i) : y ∈ l := by
  induction i generalizing x l with
  | zero => exact h
  | succ i ih =>
    have hm := Nat.mod_lt (nxt x) (show 0 < i + 2 by omega)
    exact mem_swapL l d _ _ (by omega) (by omega) y (ih _ _ (by rw [swapL_length]; omega) h)

theorem range_map_getD {α : Type} (l : List α) (d : α) : (List.range l.length).map (fun k => l.getD k d) = l := by
  apply List.ext_getElem?
  intro i
  by_cases h : i < l.length
  · rw [List.getElem?_map, List.getElem?_range h, List.getElem?_eq_getElem h]
    show some (l.getD i d) = _
    rw [List.getD_eq_getElem?_getD, List.getElem?_eq_getElem h]; rfl
  · rw [List.getElem?_eq_none (by simp; omega), List.getElem?_eq_none (by omega)]

end Go.Proofs.YtnjaofkieajnlaaGreat

/- A text cut into parts, one after the other, as plain mathematics. -/
namespace Go.Proofs.YtnjaofkieajnlaaGreat

/-- The parts of a text, as a list. -/
def cutL (t : ByteArray) (n k : Nat) : List ByteArray := (List.range k).map (partT t n)

theorem cutL_length (t : ByteArray) (n k : Nat) : (cutL t n k).length = k := by simp [cutL]

theorem cutL_succ (t : ByteArray) (n k : Nat) : cutL t n (k + 1) = cutL t n k ++ [partT t n k] := by
  unfold cutL
  rw [List.range_succ, List.map_append]; rfl

theorem cutL_getD (t : ByteArray) (n k i : Nat) (h : i < k) : (cutL t n k).getD i ByteArray.empty = partT t n i := by
  unfold cutL
  rw [List.getD_eq_getElem?_getD, List.getElem?_map, List.getElem?_range h]; rfl

/-- What is left of a text. -/
def restT (t : ByteArray) (n p : Nat) : ByteArray := t.extract (p * n) t.size

theorem restT_size (t : ByteArray) (n p : Nat) : (restT t n p).size = t.size - p * n := by
  unfold restT; rw [ByteArray.size_extract]; omega

theorem restT_zero (t : ByteArray) (n : Nat) : restT t n 0 = t := by
  unfold restT; rw [Nat.zero_mul, ByteArray.extract_zero_size]

theorem rest_first {t : ByteArray} {n p : Nat} (h : p * n + n ≤ t.size) : (restT t n p).extract 0 n = partT t n p := by
  unfold restT partT
  rw [ByteArray.extract_extract, if_neg (by omega), Nat.add_zero, Nat.min_eq_left h]

theorem rest_next {t : ByteArray} {n p : Nat} : (restT t n p).extract n (restT t n p).size = restT t n (p + 1) := by
  rw [restT_size]
  unfold restT
  rw [ByteArray.extract_extract, Nat.succ_mul]
  congr 1
  omega

theorem rest_last {t : ByteArray} {n p : Nat} (h1 : p = 0 ∨ p * n < t.size) (hn : 1 ≤ n) (h2 : t.size ≤ p * n + n) : partsN t n = p + 1 ∧ partT t n p = restT t n p := by
  constructor
  · unfold partsN
    split
    · rename_i h0
      rcases h1 with h1 | h1
      · omega
      · omega
    · rename_i h0
      have hlt : p * n < t.size := by
        rcases h1 with h1 | h1
        · subst h1; omega
        · exact h1
      rw [Nat.div_eq_of_lt_le]
      · rw [Nat.succ_mul]; omega
      · rw [Nat.succ_mul, Nat.succ_mul]; omega
  · unfold partT restT
    split
    · rfl
    · rw [show p * n + n = t.size by omega]

theorem rest_more {t : ByteArray} {n p : Nat} (hn : 1 ≤ n) (h2 : p * n + n < t.size) : p + 1 < partsN t n := by
  unfold partsN
  rw [if_neg (by omega), Nat.lt_div_iff_mul_lt (by omega), Nat.succ_mul]
  omega

/-- How many parts there are, by the size. -/
theorem partsN_le {t : ByteArray} {n c : Nat} (hn : 1 ≤ n) (hc : 1 ≤ c) : partsN t n ≤ c ↔ t.size ≤ c * n := by
  unfold partsN
  split
  · rename_i h; rw [h]; simp [hc]
  · rename_i h
    rw [← Nat.lt_succ_iff, Nat.div_lt_iff_lt_mul (by omega), Nat.succ_mul]
    omega

end Go.Proofs.YtnjaofkieajnlaaGreat

/- The program's large objects: the text of a sheet, a text cut into parts, the order that is drawn. -/
namespace Go.Proofs.YtnjaofkieajnlaaGreat
open Go.RowKit

set_option maxRecDepth 100000 in
set_option maxHeartbeats 4000000 in
theorem ltext_any (p c : Nat) (k : ByteArray) (w : World) (hp : p ≤ 255) (hc : c ≤ 255) (hk : k.size ≤ 1000) :
    Calls Tryz.prog 125 #[.int .i64 (p : Int), .int .i64 (c : Int), .string k] w fun e w' => e = .returned (.string (sheetB p c k)) ∧ Below w.heap.size w w' := by
  have hcv := conv_block ⟨#[83, UInt8.ofNat p, UInt8.ofNat c]⟩ w.heap.size #[.int .u8 83, .int .u8 (p : Int), .int .u8 (c : Int)] (w.alloc (.cells #[.int .u8 83, .int .u8 (p : Int), .int .u8 (c : Int)] 5)) (heap_alloc_new w _) (by
    show _ = [Value.int .u8 83, Value.int .u8 ((UInt8.ofNat p).toNat : Int), Value.int .u8 ((UInt8.ofNat c).toNat : Int)].toArray
    rw [ofNat_u8 p (by omega), ofNat_u8 c (by omega)])
  have hcv' : (convert 106 9 (.slice (some ⟨w.heap.size, 0, none⟩) 3 3)).run Tryz.prog (w.alloc (.cells #[.int .u8 83, .int .u8 (p : Int), .int .u8 (c : Int)] 5)) = .ok (.string ⟨#[83, UInt8.ofNat p, UInt8.ofNat c]⟩) _ := hcv
  have hsh : sheetB p c k = ⟨#[83, UInt8.ofNat p, UInt8.ofNat c]⟩ ++ k := rfl
  have hbs : (ByteArray.mk #[83, UInt8.ofNat p, UInt8.ofNat c]).size = 3 := rfl
  have pb1 : (p : Int) < 256 := by omega
  have pb2 : (c : Int) < 256 := by omega
  rw [hsh]
  clear hsh hcv
  generalize ByteArray.mk #[83, UInt8.ofNat p, UInt8.ofNat c] = B at *
  go_enter Tryz.func125, Tryz.ntmps125
  go_wp2_with fail
  go_ret
  exact ⟨rfl, (Below.refl _ _).alloc (Nat.le_refl _) _⟩

theorem chg_under2 {S : Nat → Prop} {w wr w2 : World} (h : Below w.heap.size w wr) (hc : Chg S wr w2) (hs : ∀ k, S k → w.heap.size ≤ k) : Below w.heap.size w w2 :=
  ⟨hc.os.trans h.os, hc.tape.trans h.tape, hc.output.trans h.output, Nat.le_trans h.size hc.size, fun k hk => (hc.block k (Nat.lt_of_lt_of_le hk h.size) (fun s => by have := hs k s; omega)).trans (h.block k hk)⟩

/-- How long a text is. -/
def strLen (v : Value) : Nat := match v with
  | .string t => t.size
  | _ => 0

set_option maxRecDepth 100000 in
set_option maxHeartbeats 8000000 in
theorem lcut_any (t : ByteArray) (n : Nat) (w : World) (hn : 1 ≤ n ∧ n ≤ 1000) (ht : t.size ≤ 100000) :
    Calls Tryz.prog 115 #[.string t, .int .i64 (n : Int)] w fun e w' => ∃ v, e = .returned v ∧ w'.ownsRow w.heap.size 9 1 v (partsN t n) (textV (cutL t n (partsN t n))) ∧ Below w.heap.size w w' := by
  obtain ⟨j0, gi, gz0, gz1, gz2⟩ := info_parts Tryz.infoText
  have hmk : ∀ w, (Instr.makeSlice 27 (.int .i64 0) (.int .i64 20)).run Tryz.prog w = .ok (.slice (some ⟨w.heap.size, 0, none⟩) 0 20) (w.alloc (.cells (madeCells #[.string ByteArray.empty] 20) 9)) := run_make_texts 20 (by omega)
  have hz0 := restT_zero t n
  have hmore := fun p h => rest_more (t := t) (n := n) (p := p) hn.1 h
  have hlast := fun p h h2 => rest_last (t := t) (n := n) (p := p) h hn.1 h2
  have hfst := fun p h => rest_first (t := t) (n := n) (p := p) h
  have hnxt := fun p => rest_next (t := t) (n := n) (p := p)
  have hrs := fun p => restT_size t n p
  have hsu := cutL_succ t n
  have H0 := hide hz0
  have HM := hide hmore
  have HL := hide hlast
  have HF := hide hfst
  have HN := hide hnxt
  have HR := hide hrs
  have HS := hide hsu
  clear hz0 hmore hlast hfst hnxt hrs hsu
  go_enter Tryz.func115, Tryz.ntmps115
  go_upto_region 2 with fail
  have hst : (w.alloc (.cells (madeCells #[.string ByteArray.empty] 20) 9)).ownsRow w.heap.size 9 1 (.slice (some ⟨w.heap.size, 0, none⟩) 0 20) 0 (textV (cutL t n 0)) := World.ownsRow_made (base := w.heap.size) (e := 9) (size := 1) w (madeCells #[.string ByteArray.empty] 20) 20 (Nat.le_refl _) (by unfold maxLen; omega) (by simp [size_madeCells])
  have hbS : Below w.heap.size w (w.alloc (.cells (madeCells #[.string ByteArray.empty] 20) 9)) := (Below.refl _ _).alloc (Nat.le_refl _) _
  generalize w.alloc (.cells (madeCells #[.string ByteArray.empty] 20) 9) = W at *
  clear hmk
  go_wp2_with fail
  go_loopw [0, 5] (fun tv pv wr => ∃ p : Nat, (p = 0 ∨ p * n < t.size) ∧ tv = .string (restT t n p) ∧ wr.ownsRow w.heap.size 9 1 pv p (textV (cutL t n p)) ∧ Below w.heap.size w wr) (fun tv _ _ => strLen tv)
  case atStart => exact ⟨0, Or.inl rfl, by rw [H0.out], hst, hbS⟩
  case round =>
    clear hst hbS
    obtain ⟨p, hp, rfl, hown, hbr⟩ := hrel
    have hsw := hbr.size
    have hps : p ≤ 100000 := by
      rcases hp with rfl | h
      · omega
      · have := Nat.le_mul_of_pos_right p (show 0 < n by omega); omega
    have hsz := HR.out p
    have n0 : (0 : Int) < (n : Int) := by omega
    by_cases hlt : p * n + n < t.size
    · have l1 : (n : Int) < ((restT t n p).size : Int) := by omega
      have l2 : (n : Int) ≤ ((restT t n p).size : Int) := by omega
      have l3 : (0 : Int) ≤ (n : Int) := by omega
      have hr2 := HN.out p
      have hf2 := HF.out p (by omega)
      have hs2 := HS.out p
      have hsz2 := HR.out (p + 1)
      have hps2 : (p + 1) * n < t.size := by rw [Nat.succ_mul]; omega
      generalize hR : restT t n p = R at *
      generalize hR2 : restT t n (p + 1) = R2 at *
      generalize hP2 : partT t n p = P2 at *
      have HF2 := hide hf2
      have HR2 := hide hr2
      have HS2 := hide hs2
      have Hm := hide (show R2.size < R.size by rw [hsz, hsz2, Nat.succ_mul]; omega)
      have HRR := hide hR2
      have HPP := hide (And.intro hps2 hsz2)
      clear hf2 hr2 hs2 hR hR2 hP2 hsz2 hps2 hsz hlt hp
      go_wp2_with (first | (rw [HF2.out]) | (at_builtin; refine wpList_append_lies _ rfl (.tmp 15) (.tmp 19) 27 rfl w.heap.size 9 j0 (.string ByteArray.empty) 1 16 Tryz.underlying27 gi gz0 gz1 gz2 rfl (by decide) _ _ _ rfl (hown.alloc _) ⟨wr.heap.size, 0, none⟩ 1 1 [.string P2] rfl rfl (one_news _ _ _) (one_oneCell rfl) (by decide) (by unfold maxLen; omega) (by omega) (by simp; omega) (wr.heap.size + 1) (by simp) ?_))
      intro g6 k6 W6 hown6 hgr6 hat6 hlt6
      have hb6 := below_own hown hgr6 hsw
      have hbi6 := hbr.trans hb6
      clear hgr6 hat6 hlt6 hb6 hbr hown
      go_wp2_with (rw [HR2.out])
      go_roundw
      case rel => exact ⟨p + 1, Or.inr HPP.out.1, by rw [HRR.out], by rw [HS2.out, textV_append]; exact hown6, hbi6⟩
      case measure => exact Hm.out
    · have l1 : ¬ (n : Int) < ((restT t n p).size : Int) := by omega
      obtain ⟨hpn, hpt⟩ := HL.out p hp (by omega)
      have hs2 := HS.out p
      rw [hpt] at hs2
      generalize restT t n p = R at *
      have HE := hide (And.intro hpn hs2)
      clear hpn hpt hs2 hsz hlt hp
      go_wp2_with (at_builtin; refine wpList_append_lies _ rfl (.tmp 24) (.tmp 26) 27 rfl w.heap.size 9 j0 (.string ByteArray.empty) 1 16 Tryz.underlying27 gi gz0 gz1 gz2 rfl (by decide) _ _ _ rfl (hown.alloc _) ⟨wr.heap.size, 0, none⟩ 1 1 [.string R] rfl rfl (one_news _ _ _) (one_oneCell rfl) (by decide) (by unfold maxLen; omega) (by omega) (by simp; omega) (wr.heap.size + 1) (by simp) ?_)
      intro g6 k6 W6 hown6 hgr6 hat6 hlt6
      have hb6 := below_own hown hgr6 hsw
      have hbi6 := hbr.trans hb6
      clear hgr6 hat6 hlt6 hb6 hbr hown
      go_wp2_with fail
      go_ret
      exact ⟨_, rfl, by rw [HE.out.1, HE.out.2, textV_append]; exact hown6, hbi6⟩

end Go.Proofs.YtnjaofkieajnlaaGreat

/- The program's large objects: the order that is drawn. -/
namespace Go.Proofs.YtnjaofkieajnlaaGreat
open Go.RowKit

set_option maxRecDepth 100000 in
set_option maxHeartbeats 400000 in
theorem below_big (b : Nat) (x n : Int) (w : World) (hx : 0 ≤ x ∧ x ≤ 65536) (hn : 1 ≤ n ∧ n ≤ 1000) (hc : w.cell? ⟨b, 0, none⟩ = some (.int .i64 x)) (hf : w.frozen? ⟨b, 0, none⟩ = false) :
    Calls Tryz.prog 123 #[.pointer (some ⟨b, 0, none⟩), .int .i64 n] w fun e w' => e = .returned (.int .i64 ((75 * x + 74) % 65537 % n)) ∧ w' = w.setCell ⟨b, 0, none⟩ (.int .i64 ((75 * x + 74) % 65537)) := by
  go_enter Tryz.func123, Tryz.ntmps123
  go_wp2
  go_ret
  exact ⟨rfl, rfl⟩

theorem below_bignat (b x n : Nat) (w : World) (hx : x < 65537) (hn : 1 ≤ n ∧ n ≤ 1000) (hb : w.heap[b]? = some (.cells #[.int .i64 (x : Int)] 172 (0, 0))) :
    Calls Tryz.prog 123 #[.pointer (some ⟨b, 0, none⟩), .int .i64 (n : Int)] w fun e w' => e = .returned (.int .i64 ((nxt x % n : Nat) : Int)) ∧ w' = w.setCell ⟨b, 0, none⟩ (.int .i64 (nxt x : Int)) := by
  have h := below_big b (x : Int) (n : Int) w (by omega) (by omega) (by rw [cell_of_row _ _ _ _ _ _ hb]; rfl) (frozen_of_row _ _ _ _ _ hb)
  have e1 : (75 * (x : Int) + 74) % 65537 = ((nxt x : Nat) : Int) := by unfold nxt; omega
  have e2 : ((nxt x : Nat) : Int) % (n : Int) = ((nxt x % n : Nat) : Int) := by omega
  rw [e1, e2] at h
  exact h

theorem textV_set (l : List ByteArray) (i : Nat) (t : ByteArray) : (textV l).set i (.string t) = textV (l.set i t) := by
  unfold textV; rw [List.map_set]

theorem owns_swap {w : World} {base g n cap : Nat} {A : List ByteArray} (h : w.ownsRow base 9 1 (.slice (some ⟨g, 0, none⟩) n cap) n (textV A)) (i j : Nat) : ((w.setCell ⟨g, i, none⟩ (.string (A.getD j ByteArray.empty))).setCell ⟨g, j, none⟩ (.string (A.getD i ByteArray.empty))).ownsRow base 9 1 (.slice (some ⟨g, 0, none⟩) n cap) n (textV (swapL A ByteArray.empty i j)) := by
  have h1 := (h.stored i (.string (A.getD j ByteArray.empty))).1
  rw [textV_set] at h1
  have h2 := (h1.stored j (.string (A.getD i ByteArray.empty))).1
  rw [textV_set] at h2
  exact h2

theorem owns_at {w : World} {base g n cap : Nat} {A : List ByteArray} (h : w.ownsRow base 9 1 (.slice (some ⟨g, 0, none⟩) n cap) n (textV A)) {i : Nat} (hi : i < n) (hA : A.length = n) : w.cell? ⟨g, i, none⟩ = some (.string (A.getD i ByteArray.empty)) := by
  rw [h.cellAt i (by omega), textV_get A i (by omega)]

set_option maxRecDepth 100000 in
set_option maxHeartbeats 8000000 in
theorem lshuf_any (v : Value) (L : List ByteArray) (x0 : Nat) (w : World) (hL : TextsAt w v L) (hl : 1 ≤ L.length ∧ L.length ≤ 1000) (hx0 : x0 ≤ 65536) :
    Calls Tryz.prog 122 #[v, .int .i64 (x0 : Int)] w fun e w' => ∃ v', e = .returned v' ∧ w'.ownsRow w.heap.size 9 1 v' L.length (textV (mixFrom ByteArray.empty x0 L (L.length - 1))) ∧ Below w.heap.size w w' := by
  obtain ⟨j0, gi, gz0, gz1, gz2⟩ := info_parts Tryz.infoText
  obtain ⟨ao, cap, rfl, hcap, hT⟩ := hL
  obtain ⟨n, hn⟩ : ∃ n, n = L.length := ⟨_, rfl⟩
  rw [← hn] at hl hcap hT ⊢
  obtain ⟨q, o, rfl, hq, _⟩ := hT 0 (by omega)
  have hnews : ∀ j u, (textV L)[j]? = some u → w.cell? ((⟨q, o, none⟩ : Addr).add j) = some u := fun j u hj => by
    have hjn : j < L.length := by have := (List.getElem?_eq_some_iff.1 hj).1; rwa [textV_length] at this
    obtain ⟨q', o', e1, e2, e3⟩ := hT j (by omega)
    simp only [Option.some.injEq, Addr.mk.injEq, and_true] at e1
    obtain ⟨rfl, rfl⟩ := e1
    rw [textV_get L j hjn] at hj
    rw [Addr.add_mid, e3, ← hj]
  have hmk := run_make_texts n (by omega)
  have hLn := hide hn
  have HNw := hide hnews
  have hlen := textV_length L
  rw [← hn] at hlen
  clear hn hT hnews
  go_enter Tryz.func122, Tryz.ntmps122
  go_upto_region 2 with fail
  have hst : (w.alloc (.cells (madeCells #[.string ByteArray.empty] n) 9)).ownsRow w.heap.size 9 1 (.slice (some ⟨w.heap.size, 0, none⟩) 0 n) 0 [] := World.ownsRow_made (base := w.heap.size) (e := 9) (size := 1) w (madeCells #[.string ByteArray.empty] n) n (Nat.le_refl _) (by unfold maxLen; omega) (by simp [size_madeCells])
  have hbS : Below w.heap.size w (w.alloc (.cells (madeCells #[.string ByteArray.empty] n) 9)) := (Below.refl _ _).alloc (Nat.le_refl _) _
  have HNw2 : Hid (∀ j u, (textV L)[j]? = some u → (w.alloc (.cells (madeCells #[.string ByteArray.empty] n) 9)).cell? ((⟨q, o, none⟩ : Addr).add j) = some u) := hide (fun j u hj => by have h1 := HNw.out j u hj; rw [Addr.add_mid] at h1 ⊢; exact (hbS.cell (p := ⟨q, o + j, none⟩) hq).trans h1)
  have hqW : q < (w.alloc (.cells (madeCells #[.string ByteArray.empty] n) 9)).heap.size := by simp; omega
  have hWs := hbS.size
  generalize w.alloc (.cells (madeCells #[.string ByteArray.empty] n) 9) = W at *
  clear hmk HNw
  go_wp2_with (at_builtin; refine wpList_append_lies _ rfl (.tmp 13) (.tmp 14) 27 rfl w.heap.size 9 j0 (.string ByteArray.empty) 1 16 Tryz.underlying27 gi gz0 gz1 gz2 rfl (by decide) _ _ _ rfl hst ⟨q, o, none⟩ n cap (textV L) rfl (by rw [hlen]; omega) HNw2.out (textV_one L) (by omega) (by unfold maxLen; omega) (by omega) (by omega) W.heap.size rfl ?_)
  intro g4 k4 w4 hown4 hgr4 hat4 hlt4
  have hb4 : Below w.heap.size W w4 := below_ownS hst hgr4 hWs
  have hbw4 : Below w.heap.size w w4 := hbS.trans hb4
  have hown4' : w4.ownsRow w.heap.size 9 1 (.slice (some ⟨g4, 0, none⟩) n k4) n (textV L) := hown4
  have hg4 := hown4'.lt g4 rfl
  clear hgr4 hat4 hown4 hst hbS hb4 HNw2 hqW hWs
  go_wp2_with fail
  refine (from_any _ _).mono ?_
  rintro e w5 ⟨rfl, h5⟩
  have hdr : w5.heap[w4.heap.size]? = some (.cells #[.int .i64 (x0 : Int)] 172 (0, 0)) := by rw [h5]; exact heap_alloc_new w4 _
  have hown5 : w5.ownsRow w.heap.size 9 1 (.slice (some ⟨g4, 0, none⟩) n k4) n (textV L) := by rw [h5]; exact hown4'.alloc _
  have hb5 : Below w.heap.size w w5 := by rw [h5]; exact hbw4.alloc hbw4.size _
  have hbs4 := hbw4.size
  clear h5 hbw4 hown4'
  go_wp2_with fail
  go_loopw [7] (fun iv wr => ∃ (i x : Nat) (A : List ByteArray), i < n ∧ x ≤ 65536 ∧ A.length = n ∧ iv = .int .i64 (i : Int) ∧ mixFrom ByteArray.empty x A i = mixFrom ByteArray.empty x0 L (n - 1) ∧ wr.ownsRow w.heap.size 9 1 (.slice (some ⟨g4, 0, none⟩) n k4) n (textV A) ∧ wr.heap[w4.heap.size]? = some (.cells #[.int .i64 (x : Int)] 172 (0, 0)) ∧ Below w.heap.size w wr) (fun iv _ => (intOf iv).toNat)
  case atStart => exact ⟨n - 1, x0, L, by omega, hx0, hLn.out.symm, by congr 1; omega, rfl, hown5, hdr, hb5⟩
  case round =>
    clear hown5 hdr hb5
    obtain ⟨i, x, A, hi, hx, hA, rfl, hmix, hown, hdr, hbr⟩ := hrel
    have Hmix := hide hmix
    have HA := hide hA
    clear hmix
    by_cases hi1 : 1 ≤ i
    · have hd : nxt x % (i + 1) < i + 1 := Nat.mod_lt _ (by omega)
      have hnx : nxt x ≤ 65536 := by unfold nxt; omega
      have hm2 : mixFrom ByteArray.empty x A i = mixFrom ByteArray.empty (nxt x) (swapL A ByteArray.empty i (nxt x % (i + 1))) (i - 1) := by
        obtain ⟨m, rfl⟩ : ∃ m, i = m + 1 := ⟨i - 1, by omega⟩
        rfl
      have Hm2 := hide hm2
      clear hm2
      have hbe := fun W (h : W.heap[w4.heap.size]? = some (.cells #[.int .i64 (x : Int)] 172 (0, 0))) => below_bignat w4.heap.size x (i + 1) W (by omega) (by omega) h
      rw [show ((i + 1 : Nat) : Int) = (i : Int) + 1 by omega] at hbe
      have i0 : (0 : Int) < (i : Int) := by omega
      generalize nxt x = y at *
      generalize hdd : y % (i + 1) = d at *
      have Hdd := hide hdd
      clear hdd
      go_wp2_with fail
      refine (hbe _ hdr).mono ?_
      rintro e w6 ⟨rfl, h6⟩
      have hdr6 : w6.heap[w4.heap.size]? = some (.cells #[.int .i64 (y : Int)] 172 (0, 0)) := by
        rw [h6, heap_setCell_same wr w4.heap.size 0 _ _ _ hdr]; rfl
      have hown6 : w6.ownsRow w.heap.size 9 1 (.slice (some ⟨g4, 0, none⟩) n k4) n (textV A) := by
        rw [h6]; exact owns_of_block hown (fun k hk => heap_setCell_other _ _ _ _ (by simp [Value.ownBlock] at hk; show k ≠ w4.heap.size; omega))
      have hb6 : Below w.heap.size w w6 := by rw [h6]; exact hbr.setCell (p := ⟨w4.heap.size, 0, none⟩) hbs4 _
      clear h6 hown hdr hbr hbe
      have c0 := owns_at hown6 (i := i) (by omega) hA
      have c1 := owns_at hown6 (i := d) (by omega) hA
      have f0 := hown6.frozenAt i
      have hend := owns_swap hown6 i d
      have hlen2 := swapL_length A ByteArray.empty i d
      have hst1 := hown6.stored i (.string (A.getD d ByteArray.empty))
      obtain ⟨u, c2⟩ : ∃ u, (w6.setCell ⟨g4, i, none⟩ (.string (A.getD d ByteArray.empty))).cell? ⟨g4, d, none⟩ = some u := ⟨_, by
        have h := hst1.1
        rw [textV_set] at h
        exact owns_at h (by omega) (by rw [List.length_set]; exact hA)⟩
      have f2 := hst1.1.frozenAt d
      have hdrE : ((w6.setCell ⟨g4, i, none⟩ (.string (A.getD d ByteArray.empty))).setCell ⟨g4, d, none⟩ (.string (A.getD i ByteArray.empty))).heap[w4.heap.size]? = some (.cells #[.int .i64 (y : Int)] 172 (0, 0)) := by
        rw [heap_setCell_other _ _ _ _ (by show w4.heap.size ≠ g4; omega), heap_setCell_other _ _ _ _ (by show w4.heap.size ≠ g4; omega)]; exact hdr6
      have hbE := (hb6.setCell (p := ⟨g4, i, none⟩) hg4.1 (.string (A.getD d ByteArray.empty))).setCell (p := ⟨g4, d, none⟩) hg4.1 (.string (A.getD i ByteArray.empty))
      rw [hA] at hlen2
      generalize swapL A ByteArray.empty i d = A2 at *
      generalize A.getD i ByteArray.empty = ai at *
      generalize A.getD d ByteArray.empty = ad at *
      have i1 : (0 : Int) ≤ (i : Int) := by omega
      have i2 : (i : Int) < (n : Int) := by omega
      have i3 : (0 : Int) ≤ (d : Int) := by omega
      have i4 : (d : Int) < (n : Int) := by omega
      clear hst1 hown6 hdr6 hb6 hA
      go_wp2_with fail
      go_roundw
      case rel =>
        refine ⟨i - 1, y, A2, by omega, hnx, hlen2, ?_, ?_, hend, hdrE, hbE⟩
        · show Value.int .i64 _ = Value.int .i64 _
          congr 1
          omega
        · rw [← Hmix.out, Hm2.out]
      case measure => simp [intOf]; omega
    · have hAe : A = mixFrom ByteArray.empty x0 L (n - 1) := by
        have := Hmix.out
        rw [show i = 0 by omega] at this
        exact this
      have i0 : ¬ (0 : Int) < (i : Int) := by omega
      rw [hAe] at hown
      clear hAe Hmix HA hA hi1
      go_wp2_with fail
      go_ret
      exact ⟨_, rfl, hown, hbr⟩

end Go.Proofs.YtnjaofkieajnlaaGreat

/- The pieces that the statements make of a text's bytes: as many as asked, each of the size asked. -/
namespace Go.Proofs.YtnjaofkieajnlaaGreat
open Go.RowKit

theorem u8_of (x : Int) (h : 0 ≤ x ∧ x ≤ 255) : ∃ y : UInt8, x = (y.toNat : Int) := ⟨UInt8.ofNat x.toNat, by
  rw [UInt8.toNat_ofNat']
  omega⟩

theorem bytesV_push (b : ByteArray) (y : UInt8) : bytesV (b.push y) = bytesV b ++ [.int .u8 (y.toNat : Int)] := by
  unfold bytesV numsB
  cases b
  simp [ByteArray.push]

theorem u8_wrap_bd (x : Int) : 0 ≤ IntKind.u8.wrap x ∧ IntKind.u8.wrap x ≤ 255 := by
  rw [IntKind.wrap_u8']
  omega

end Go.Proofs.YtnjaofkieajnlaaGreat
