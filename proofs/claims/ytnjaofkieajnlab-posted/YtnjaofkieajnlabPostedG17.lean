/- Texts of the proof, part 18. -/
import Derived.Laws.OwnMore
import Derived.Test.YtnjaofkieajnlabPostedG14
import Derived.Test.YtnjaofkieajnlabPostedG15
import Derived.Test.YtnjaofkieajnlabPostedG16

/- The program's Send. -/
namespace Go.Proofs.Ytnjaofkieajnlab
open Go.RowKit

theorem maybe_below (K M O S : Int) (w : World) :
    Calls Try.prog 46 #[specV K M O S] w fun e w' => e = .returned (.bool (mayB K M O S)) ∧ Below w.heap.size w w' :=
  (maybe_any K M O S w).mono fun _ _ ⟨he, hw⟩ => ⟨he, by rw [hw]; exact (Below.refl _ _).alloc (Nat.le_refl _) _⟩

theorem objWord_split (K M O S z : Nat) (o : ByteArray) : cutTo (objT (K * z) o) z K ++ sparesOf K M O S (cutTo (objT (K * z) o) z K) z = objWord K M O S z o :=
  (knownTo_split _ _ _ _).symm

set_option maxRecDepth 100000 in
set_option maxHeartbeats 8000000 in
theorem osend_ok (K M O S z : Nat) (o : ByteArray) (w : World) (hK : 1 ≤ K ∧ K ≤ 20) (hM : 1 ≤ M ∧ M ≤ 20) (hO : 1 ≤ O ∧ O ≤ M) (hS : S ≤ 65535) (hz : 1 ≤ z ∧ z ≤ 16) (ho : o.size + 2 ≤ K * z) :
    Calls Try.prog 33 #[specV K M O S, .int .i64 (z : Int), .string o] w fun e w' => ∃ v, e = .returned (.tuple #[v, .int .i64 0]) ∧ w'.ownsRow w.heap.size 9 1 v (K + M) (textV (packTo K M O S z (objWord K M O S z o) (K + M))) ∧ Below w.heap.size w w' := by
  have hN2 : K * z ≤ 320 := Nat.le_trans (Nat.mul_le_mul hK.2 hz.2) (by decide)
  have hmul : (K : Int) * (z : Int) = ((K * z : Nat) : Int) := by simp
  have hm1 : 0 ≤ (K : Int) * (z : Int) := by rw [hmul]; omega
  have hm2 : (K : Int) * (z : Int) ≤ 320 := by rw [hmul]; omega
  have hc1 : ¬ (K : Int) * (z : Int) - 2 < (o.size : Int) := by rw [hmul]; omega
  have hma := fun W => maybe_below K M O S W
  have hmay : mayB K M O S = true := by simp [mayB]; omega
  rw [hmay] at hma
  have hds := cutTo_size (objT (K * z) o) z K (by rw [objT_size _ _ ho]; exact Nat.le_refl _)
  have hdl := cutTo_length (objT (K * z) o) z K
  obtain ⟨hsh, h0s⟩ := shape_made hdl (by omega) hds hz
  have hda := fun W => pdata_any K z (K * z) o W hz hK rfl ho
  have hwo := fun v W h => wspare_ok K M O S v (cutTo (objT (K * z) o) z K) W hK hM hO hS hsh h
  rw [h0s] at hwo
  have hPl : (objWord K M O S z o).length = K + M := by unfold objWord; rw [knownTo_length, hdl]
  have hPs : ∀ x ∈ objWord K M O S z o, x.size = z := knownTo_size hds M
  have hPe := objWord_split K M O S z o
  have hsl := sparesOf_length K M O S (cutTo (objT (K * z) o) z K) z
  clear h0s hsh hmul hds hmay
  generalize objWord K M O S z o = P at *
  generalize sparesOf K M O S (cutTo (objT (K * z) o) z K) z = Sp at *
  generalize cutTo (objT (K * z) o) z K = D at *
  have HPe := hide hPe
  clear hPe
  obtain ⟨j0, gi, gz0, gz1, gz2⟩ := info_parts Try.infoText
  have hsp : (w.alloc (specB K M O S)).heap[w.heap.size]? = some (specB K M O S) := heap_alloc_new w _
  have hbA : Below w.heap.size w (w.alloc (specB K M O S)) := (Below.refl _ _).alloc (Nat.le_refl _) _
  have hmk : ∀ w, (Instr.makeSlice 27 (.int .i64 0) (.int .i64 ((K : Int) + (M : Int)))).run Try.prog w = .ok (.slice (some ⟨w.heap.size, 0, none⟩) 0 (K + M)) (w.alloc (.cells (madeCells #[.string ByteArray.empty] (K + M)) 9)) := fun w => by
    have h := run_make_texts (K + M) (by omega) w
    rw [show ((K + M : Nat) : Int) = (K : Int) + (M : Int) from by omega] at h
    exact h
  go_enter Try.func33, Try.ntmps33
  go_wp2_with fail
  refine (hma _).mono ?_
  rintro e w1 ⟨rfl, hb1⟩
  have hs1 := block_on hsp hb1
  have hbw1 := hbA.trans (hb1.mono hbA.size)
  have hl1 := (Array.getElem?_eq_some_iff.1 hs1).1
  clear hsp hbA hb1 hma
  obtain ⟨c0, c1, c2, c3⟩ := spec_cells hs1
  have z1 : ¬ (z : Int) < 1 := by omega
  have z2 : ¬ (16 : Int) < (z : Int) := by omega
  go_wp2_with fail
  refine (room_any K z _ hK.2 hz.2).mono ?_
  rintro e w1r ⟨rfl, hr⟩
  obtain rfl := hr.symm
  go_wp2_with fail
  refine (hda _).mono ?_
  rintro e w2 ⟨v2, rfl, hown2, hb2⟩
  have hs2 := block_on hs1 hb2
  have hbw2 := hbw1.trans (hb2.mono hbw1.size)
  clear c0 c1 c2 c3 hs1 hda
  obtain ⟨c0, c1, c2, c3⟩ := spec_cells hs2
  go_wp2_with fail
  refine (hwo _ _ (owns_texts hown2 hdl.symm)).mono ?_
  rintro e w3 ⟨v3, rfl, hown3, hb3⟩
  have hs3 := block_on hs2 hb3
  have hbw3 := hbw2.trans (hb3.mono hbw2.size)
  have hownD := owns_below hown2 hb3
  clear c0 c1 c2 c3 hs2 hwo hown2
  obtain ⟨c0, c1, c2, c3⟩ := spec_cells hs3
  obtain ⟨gD, kD, rfl, hgD, hgDl⟩ := hownD.form (by omega)
  obtain ⟨gS, kS, rfl, hgS, hgSl⟩ := hown3.form (by omega)
  have hnews := hown3.cells (g := gS) rfl
  have HNw := hide hnews
  clear hnews
  have hwb := hbw1.size
  have hwb3 : w1.heap.size ≤ w3.heap.size := Nat.le_trans hb2.size hb3.size
  clear hb2 hb3 hbw2
  go_wp2_with (at_builtin; refine wpList_append_lies _ rfl (.tmp 45) (.tmp 46) 27 rfl w1.heap.size 9 j0 (.string ByteArray.empty) 1 16 Try.underlying27 gi gz0 gz1 gz2 rfl (by decide) _ _ _ rfl hownD ⟨gS, 0, none⟩ M kS (textV Sp) rfl (by rw [textV_length]; omega) HNw.out (textV_one Sp) (by omega) (by unfold maxLen; omega) (by omega) (by omega) w3.heap.size rfl ?_)
  intro g4 k4 w4 hown4 hgr4 hat4 hlt4
  have hb4 : Below w1.heap.size w3 w4 := below_ownS hownD hgr4 hwb3
  have hs4 := block_low hs3 hb4 hl1
  have hbw4 : Below w.heap.size w w4 := hbw3.trans (hb4.mono hwb)
  have hownP : w4.ownsRow w1.heap.size 9 1 (.slice (some ⟨g4, 0, none⟩) (K + M) k4) (K + M) (textV P) := by rw [← HPe.out, textV_append]; exact hown4
  clear hgr4 hat4 hown4 hownD hown3 HNw HPe c0 c1 c2 c3 hs3 hbw3 hb4 hwb3 hgS hgSl hgD hgDl
  have htx := owns_texts hownP hPl.symm
  have hTc : ∀ k, k < K + M → w4.cell? ⟨g4, k, none⟩ = some (.string (P.getD k ByteArray.empty)) := by
    obtain ⟨ao, cap', hv', _, hT⟩ := htx
    injection hv' with hv1 hv2 hv3
    intro k hk
    obtain ⟨q, o1, hq1, hq2, hq3⟩ := hT k (by omega)
    rw [hq1] at hv1
    injection hv1 with hv1
    injection hv1 with hb1 ho1
    subst hb1 ho1
    rw [Nat.zero_add] at hq3
    exact hq3
  have HT := hide hTc
  clear hTc htx hownP
  have hw4 := hbw4.size
  go_upto_region 13 with fail
  have hst : (w4.alloc (.cells (madeCells #[.string ByteArray.empty] (K + M)) 9)).ownsRow w4.heap.size 9 1 (.slice (some ⟨w4.heap.size, 0, none⟩) 0 (K + M)) 0 (textV (packTo K M O S z P 0)) := World.ownsRow_made (base := w4.heap.size) (e := 9) (size := 1) w4 (madeCells #[.string ByteArray.empty] (K + M)) (K + M) (Nat.le_refl _) (by unfold maxLen; omega) (by simp [size_madeCells])
  have hbS : Below w4.heap.size w4 (w4.alloc (.cells (madeCells #[.string ByteArray.empty] (K + M)) 9)) := (Below.refl _ _).alloc (Nat.le_refl _) _
  generalize w4.alloc (.cells (madeCells #[.string ByteArray.empty] (K + M)) 9) = W5 at *
  clear hmk
  go_wp2_with fail
  go_loopw [11, 53] (fun ov t wr => ∃ i : Nat, i ≤ K + M ∧ t = .int .i64 i ∧ wr.ownsRow w4.heap.size 9 1 ov i (textV (packTo K M O S z P i)) ∧ Below w4.heap.size w4 wr) (fun _ t _ => K + M - (intOf t).toNat)
  case atStart => exact ⟨0, Nat.zero_le _, rfl, hst, hbS⟩
  case round =>
    clear hst hbS
    obtain ⟨i, hiM, rfl, hown, hbr⟩ := hrel
    have hwr := hbr.size
    by_cases hlt : i < K + M
    · have hcl : wr.cell? ⟨g4, i, none⟩ = some (.string (P.getD i ByteArray.empty)) := by
        rw [← HT.out i hlt]; exact hbr.cell hlt4
      have hpm : P.getD i ByteArray.empty ∈ P := by
        rw [List.getD_eq_getElem?_getD, List.getElem?_eq_getElem (by omega)]; exact List.getElem_mem _
      have hps := hPs _ hpm
      have hpk : packTo K M O S z P (i + 1) = packTo K M O S z P i ++ [packB K M O S z i (P.getD i ByteArray.empty)] := rfl
      have Hpk := hide hpk
      clear hpk hpm
      generalize P.getD i ByteArray.empty = p at *
      obtain ⟨c0, c1, c2, c3⟩ := spec_cells (block_on hs4 hbr)
      go_wp2_with fail
      refine (ptext_any K M O S z i p wr hK.2 hM.2 (by omega) hS (by omega) (by omega) (by omega)).mono ?_
      rintro e w6 ⟨rfl, hb6⟩
      have hown6 := owns_below hown hb6
      have hbr6 := hbr.trans (hb6.mono hbr.size)
      have hw6 := hbr6.size
      clear hb6 hown hbr c0 c1 c2 c3 hcl
      generalize packB K M O S z i p = pk at *
      go_wp2_with (at_builtin; refine wpList_append_lies _ rfl (.tmp 64) (.tmp 66) 27 rfl w4.heap.size 9 j0 (.string ByteArray.empty) 1 16 Try.underlying27 gi gz0 gz1 gz2 rfl (by decide) _ _ _ rfl (hown6.alloc _) ⟨w6.heap.size, 0, none⟩ 1 1 [.string pk] rfl rfl (one_news _ _ _) (one_oneCell rfl) (by decide) (by unfold maxLen; omega) (by omega) (by simp; omega) (w6.heap.size + 1) (by simp) ?_)
      intro g7 cap7 w7 hown7 hgr7 hat7 hlt7
      have hb7 : Below w4.heap.size w4 w7 := hbr6.grown (grownBy_of_alloc hgr7) hbr6.size (fun k e => (hown6.lt k e).1)
      clear hown6 hbr6 hgr7 hat7
      go_wp2_with fail
      go_roundw
      case rel => exact ⟨i + 1, by omega, by go_num, by rw [Hpk.out, textV_append]; exact hown7, hb7⟩
      case measure => simp [intOf]; omega
    · have hii : i = K + M := by omega
      subst hii
      have hff := hbw4.trans (hbr.mono hw4)
      have hof := owns_low hown hw4
      have hcf : ¬ ((K + M : Nat) : Int) < (K : Int) + (M : Int) := by omega
      go_wp2_with fail
      go_ret2
      exact ⟨_, rfl, hof, hff⟩

set_option maxRecDepth 100000 in
set_option maxHeartbeats 4000000 in
theorem osend_bad (K M O S z : Int) (o : ByteArray) (w : World) (hmay : mayB K M O S = false) :
    Calls Try.prog 33 #[specV K M O S, .int .i64 z, .string o] w fun e w' => e = .returned (.tuple #[.slice none 0 0, .int .i64 1]) ∧ Below w.heap.size w w' := by
  have hma := fun W => maybe_below K M O S W
  rw [hmay] at hma
  have hbA : Below w.heap.size w (w.alloc (.cells #[.int .i64 K, .int .i64 M, .int .i64 O, .int .i64 S] 24)) := (Below.refl _ _).alloc (Nat.le_refl _) _
  go_enter Try.func33, Try.ntmps33
  go_wp2_with fail
  refine (hma _).mono ?_
  rintro e w1 ⟨rfl, hb1⟩
  have hbw1 := hbA.trans (hb1.mono hbA.size)
  go_wp2_with fail
  go_ret2
  exact ⟨rfl, hbw1⟩

set_option maxRecDepth 100000 in
set_option maxHeartbeats 4000000 in
theorem osend_arg (K M O S z : Int) (o : ByteArray) (w : World) (hmay : mayB K M O S = true) (hz : z < 1 ∨ (1 ≤ z ∧ 16 < z)) :
    Calls Try.prog 33 #[specV K M O S, .int .i64 z, .string o] w fun e w' => e = .returned (.tuple #[.slice none 0 0, .int .i64 2]) ∧ Below w.heap.size w w' := by
  have hma := fun W => maybe_below K M O S W
  rw [hmay] at hma
  have hbA : Below w.heap.size w (w.alloc (.cells #[.int .i64 K, .int .i64 M, .int .i64 O, .int .i64 S] 24)) := (Below.refl _ _).alloc (Nat.le_refl _) _
  rcases hz with hz | hz
  all_goals
    go_enter Try.func33, Try.ntmps33
    go_wp2_with fail
    refine (hma _).mono ?_
    rintro e w1 ⟨rfl, hb1⟩
    have hbw1 := hbA.trans (hb1.mono hbA.size)
    go_wp2_with fail
    go_ret2
    exact ⟨rfl, hbw1⟩

set_option maxRecDepth 100000 in
set_option maxHeartbeats 4000000 in
theorem osend_shape (K M O S z : Nat) (o : ByteArray) (w : World) (hmay : mayB K M O S = true) (hz : 1 ≤ z ∧ z ≤ 16) (ho : K * z < o.size + 2) :
    Calls Try.prog 33 #[specV K M O S, .int .i64 (z : Int), .string o] w fun e w' => e = .returned (.tuple #[.slice none 0 0, .int .i64 3]) ∧ Below w.heap.size w w' := by
  have hKK := mayB_true hmay
  have hK : 1 ≤ K ∧ K ≤ 20 := by omega
  clear hKK
  have hN2 : K * z ≤ 320 := Nat.le_trans (Nat.mul_le_mul hK.2 hz.2) (by decide)
  have hmul : (K : Int) * (z : Int) = ((K * z : Nat) : Int) := by simp
  have hm1 : 0 ≤ (K : Int) * (z : Int) := by rw [hmul]; omega
  have hm2 : (K : Int) * (z : Int) ≤ 320 := by rw [hmul]; omega
  have hc1 : (K : Int) * (z : Int) - 2 < (o.size : Int) := by rw [hmul]; omega
  clear hmul
  have hma := fun W => maybe_below K M O S W
  rw [hmay] at hma
  have hsp : (w.alloc (specB K M O S)).heap[w.heap.size]? = some (specB K M O S) := heap_alloc_new w _
  have hbA : Below w.heap.size w (w.alloc (specB K M O S)) := (Below.refl _ _).alloc (Nat.le_refl _) _
  go_enter Try.func33, Try.ntmps33
  go_wp2_with fail
  refine (hma _).mono ?_
  rintro e w1 ⟨rfl, hb1⟩
  have hs1 := block_on hsp hb1
  have hbw1 := hbA.trans (hb1.mono hbA.size)
  clear hsp hbA hb1 hma
  obtain ⟨c0, c1, c2, c3⟩ := spec_cells hs1
  have z1 : ¬ (z : Int) < 1 := by omega
  have z2 : ¬ (16 : Int) < (z : Int) := by omega
  go_wp2_with fail
  refine (room_any K z _ hK.2 hz.2).mono ?_
  rintro e w1r ⟨rfl, hr⟩
  obtain rfl := hr.symm
  go_wp2_with fail
  go_ret2
  exact ⟨rfl, hbw1⟩

set_option maxRecDepth 100000 in
set_option maxHeartbeats 4000000 in
theorem send_ok (K M O S z : Nat) (o : ByteArray) (w : World) (hK : 1 ≤ K ∧ K ≤ 20) (hM : 1 ≤ M ∧ M ≤ 20) (hO : 1 ≤ O ∧ O ≤ M) (hS : S ≤ 65535) (hz : 1 ≤ z ∧ z ≤ 16) (ho : o.size + 2 ≤ K * z) :
    Calls Try.prog 18 #[specV K M O S, .int .i64 (z : Int), .string o] w fun e w' => ∃ v, e = .returned (.tuple #[v, .int .i64 0]) ∧ w'.ownsRow w.heap.size 9 1 v (K + M) (textV (packTo K M O S z (objWord K M O S z o) (K + M))) ∧ Below w.heap.size w w' := by
  have hse := fun W => osend_ok K M O S z o W hK hM hO hS hz ho
  generalize packTo K M O S z (objWord K M O S z o) (K + M) = L at *
  have hbA : Below w.heap.size w (w.alloc (specB K M O S)) := (Below.refl _ _).alloc (Nat.le_refl _) _
  go_enter Try.func18, Try.ntmps18
  go_wp2_with fail
  refine (hse _).mono ?_
  rintro e w1 ⟨v, rfl, hown, hb1⟩
  have hown1 := owns_low hown hbA.size
  have hbw1 := hbA.trans (hb1.mono hbA.size)
  clear hown hse hbA hb1
  go_wp2_with fail
  go_ret2
  exact ⟨_, rfl, hown1, hbw1⟩

set_option maxRecDepth 100000 in
set_option maxHeartbeats 4000000 in
theorem send_err (K M O S z n : Int) (o : ByteArray) (w : World) (hse : ∀ W, Calls Try.prog 33 #[specV K M O S, .int .i64 z, .string o] W fun e w' => e = .returned (.tuple #[.slice none 0 0, .int .i64 n]) ∧ Below W.heap.size W w') :
    Calls Try.prog 18 #[specV K M O S, .int .i64 z, .string o] w fun e w' => e = .returned (.tuple #[.slice none 0 0, .int .i64 n]) ∧ Below w.heap.size w w' := by
  have hbA : Below w.heap.size w (w.alloc (.cells #[.int .i64 K, .int .i64 M, .int .i64 O, .int .i64 S] 24)) := (Below.refl _ _).alloc (Nat.le_refl _) _
  go_enter Try.func18, Try.ntmps18
  go_wp2_with fail
  refine (hse _).mono ?_
  rintro e w1 ⟨rfl, hb1⟩
  have hbw1 := hbA.trans (hb1.mono hbA.size)
  clear hse hbA hb1
  go_wp2_with fail
  go_ret2
  exact ⟨rfl, hbw1⟩

end Go.Proofs.Ytnjaofkieajnlab

/- The program's large objects: the text of a sheet, a text cut into parts, the order that is drawn. -/
namespace Go.Proofs.Ytnjaofkieajnlab
open Go.RowKit

set_option maxRecDepth 100000 in
set_option maxHeartbeats 4000000 in
theorem ltext_any (p c : Nat) (k : ByteArray) (w : World) (hp : p ≤ 255) (hc : c ≤ 255) (hk : k.size ≤ 1000) :
    Calls Try.prog 68 #[.int .i64 (p : Int), .int .i64 (c : Int), .string k] w fun e w' => e = .returned (.string (sheetB p c k)) ∧ Below w.heap.size w w' := by
  have hcv := conv_block ⟨#[83, UInt8.ofNat p, UInt8.ofNat c]⟩ w.heap.size #[.int .u8 83, .int .u8 (p : Int), .int .u8 (c : Int)] (w.alloc (.cells #[.int .u8 83, .int .u8 (p : Int), .int .u8 (c : Int)] 5)) (heap_alloc_new w _) (by
    show _ = [Value.int .u8 83, Value.int .u8 ((UInt8.ofNat p).toNat : Int), Value.int .u8 ((UInt8.ofNat c).toNat : Int)].toArray
    rw [ofNat_u8 p (by omega), ofNat_u8 c (by omega)])
  have hcv' : (convert 55 9 (.slice (some ⟨w.heap.size, 0, none⟩) 3 3)).run Try.prog (w.alloc (.cells #[.int .u8 83, .int .u8 (p : Int), .int .u8 (c : Int)] 5)) = .ok (.string ⟨#[83, UInt8.ofNat p, UInt8.ofNat c]⟩) _ := hcv
  have hsh : sheetB p c k = ⟨#[83, UInt8.ofNat p, UInt8.ofNat c]⟩ ++ k := rfl
  have hbs : (ByteArray.mk #[83, UInt8.ofNat p, UInt8.ofNat c]).size = 3 := rfl
  have pb1 : (p : Int) < 256 := by omega
  have pb2 : (c : Int) < 256 := by omega
  rw [hsh]
  clear hsh hcv
  generalize ByteArray.mk #[83, UInt8.ofNat p, UInt8.ofNat c] = B at *
  go_enter Try.func68, Try.ntmps68
  go_wp2_with fail
  go_ret
  exact ⟨rfl, (Below.refl _ _).alloc (Nat.le_refl _) _⟩

theorem chg_under2 {S : Nat → Prop} {w wr w2 : World} (h : Below w.heap.size w wr) (hc : Chg S wr w2) (hs : ∀ k, S k → w.heap.size ≤ k) : Below w.heap.size w w2 :=
  ⟨hc.os.trans h.os, hc.tape.trans h.tape, hc.output.trans h.output, Nat.le_trans h.size hc.size, fun k hk => (hc.block k (Nat.lt_of_lt_of_le hk h.size) (fun s => by have := hs k s; omega)).trans (h.block k hk)⟩

/-- How long a text is. -/
def strLen (v : Value) : Nat := match v with
  | .string t => t.size
  | _ => 0

set_option maxRecDepth 100000 in
set_option maxHeartbeats 8000000 in
theorem lcut_any (t : ByteArray) (n : Nat) (w : World) (hn : 1 ≤ n ∧ n ≤ 1000) (ht : t.size ≤ 100000) :
    Calls Try.prog 55 #[.string t, .int .i64 (n : Int)] w fun e w' => ∃ v, e = .returned v ∧ w'.ownsRow w.heap.size 9 1 v (partsN t n) (textV (cutL t n (partsN t n))) ∧ Below w.heap.size w w' := by
  obtain ⟨j0, gi, gz0, gz1, gz2⟩ := info_parts Try.infoText
  have hmk : ∀ w, (Instr.makeSlice 27 (.int .i64 0) (.int .i64 20)).run Try.prog w = .ok (.slice (some ⟨w.heap.size, 0, none⟩) 0 20) (w.alloc (.cells (madeCells #[.string ByteArray.empty] 20) 9)) := run_make_texts 20 (by omega)
  have hz0 := restT_zero t n
  have hmore := fun p h => rest_more (t := t) (n := n) (p := p) hn.1 h
  have hlast := fun p h h2 => rest_last (t := t) (n := n) (p := p) h hn.1 h2
  have hfst := fun p h => rest_first (t := t) (n := n) (p := p) h
  have hnxt := fun p => rest_next (t := t) (n := n) (p := p)
  have hrs := fun p => restT_size t n p
  have hsu := cutL_succ t n
  have H0 := hide hz0
  have HM := hide hmore
  have HL := hide hlast
  have HF := hide hfst
  have HN := hide hnxt
  have HR := hide hrs
  have HS := hide hsu
  clear hz0 hmore hlast hfst hnxt hrs hsu
  go_enter Try.func55, Try.ntmps55
  go_upto_region 2 with fail
  have hst : (w.alloc (.cells (madeCells #[.string ByteArray.empty] 20) 9)).ownsRow w.heap.size 9 1 (.slice (some ⟨w.heap.size, 0, none⟩) 0 20) 0 (textV (cutL t n 0)) := World.ownsRow_made (base := w.heap.size) (e := 9) (size := 1) w (madeCells #[.string ByteArray.empty] 20) 20 (Nat.le_refl _) (by unfold maxLen; omega) (by simp [size_madeCells])
  have hbS : Below w.heap.size w (w.alloc (.cells (madeCells #[.string ByteArray.empty] 20) 9)) := (Below.refl _ _).alloc (Nat.le_refl _) _
  generalize w.alloc (.cells (madeCells #[.string ByteArray.empty] 20) 9) = W at *
  clear hmk
  go_wp2_with fail
  go_loopw [0, 5] (fun tv pv wr => ∃ p : Nat, (p = 0 ∨ p * n < t.size) ∧ tv = .string (restT t n p) ∧ wr.ownsRow w.heap.size 9 1 pv p (textV (cutL t n p)) ∧ Below w.heap.size w wr) (fun tv _ _ => strLen tv)
  case atStart => exact ⟨0, Or.inl rfl, by rw [H0.out], hst, hbS⟩
  case round =>
    clear hst hbS
    obtain ⟨p, hp, rfl, hown, hbr⟩ := hrel
    have hsw := hbr.size
    have hps : p ≤ 100000 := by
      rcases hp with rfl | h
      · omega
      · have := Nat.le_mul_of_pos_right p (show 0 < n by omega); omega
    have hsz := HR.out p
    have n0 : (0 : Int) < (n : Int) := by omega
    by_cases hlt : p * n + n < t.size
    · have l1 : (n : Int) < ((restT t n p).size : Int) := by omega
      have l2 : (n : Int) ≤ ((restT t n p).size : Int) := by omega
      have l3 : (0 : Int) ≤ (n : Int) := by omega
      have hr2 := HN.out p
      have hf2 := HF.out p (by omega)
      have hs2 := HS.out p
      have hsz2 := HR.out (p + 1)
      have hps2 : (p + 1) * n < t.size := by rw [Nat.succ_mul]; omega
      generalize hR : restT t n p = R at *
      generalize hR2 : restT t n (p + 1) = R2 at *
      generalize hP2 : partT t n p = P2 at *
      have HF2 := hide hf2
      have HR2 := hide hr2
      have HS2 := hide hs2
      have Hm := hide (show R2.size < R.size by rw [hsz, hsz2, Nat.succ_mul]; omega)
      have HRR := hide hR2
      have HPP := hide (And.intro hps2 hsz2)
      clear hf2 hr2 hs2 hR hR2 hP2 hsz2 hps2 hsz hlt hp
      go_wp2_with (first | (rw [HF2.out]) | (at_builtin; refine wpList_append_lies _ rfl (.tmp 15) (.tmp 19) 27 rfl w.heap.size 9 j0 (.string ByteArray.empty) 1 16 Try.underlying27 gi gz0 gz1 gz2 rfl (by decide) _ _ _ rfl (hown.alloc _) ⟨wr.heap.size, 0, none⟩ 1 1 [.string P2] rfl rfl (one_news _ _ _) (one_oneCell rfl) (by decide) (by unfold maxLen; omega) (by omega) (by simp; omega) (wr.heap.size + 1) (by simp) ?_))
      intro g6 k6 W6 hown6 hgr6 hat6 hlt6
      have hb6 := below_own hown hgr6 hsw
      have hbi6 := hbr.trans hb6
      clear hgr6 hat6 hlt6 hb6 hbr hown
      go_wp2_with (rw [HR2.out])
      go_roundw
      case rel => exact ⟨p + 1, Or.inr HPP.out.1, by rw [HRR.out], by rw [HS2.out, textV_append]; exact hown6, hbi6⟩
      case measure => exact Hm.out
    · have l1 : ¬ (n : Int) < ((restT t n p).size : Int) := by omega
      obtain ⟨hpn, hpt⟩ := HL.out p hp (by omega)
      have hs2 := HS.out p
      rw [hpt] at hs2
      generalize restT t n p = R at *
      have HE := hide (And.intro hpn hs2)
      clear hpn hpt hs2 hsz hlt hp
      go_wp2_with (at_builtin; refine wpList_append_lies _ rfl (.tmp 24) (.tmp 26) 27 rfl w.heap.size 9 j0 (.string ByteArray.empty) 1 16 Try.underlying27 gi gz0 gz1 gz2 rfl (by decide) _ _ _ rfl (hown.alloc _) ⟨wr.heap.size, 0, none⟩ 1 1 [.string R] rfl rfl (one_news _ _ _) (one_oneCell rfl) (by decide) (by unfold maxLen; omega) (by omega) (by simp; omega) (wr.heap.size + 1) (by simp) ?_)
      intro g6 k6 W6 hown6 hgr6 hat6 hlt6
      have hb6 := below_own hown hgr6 hsw
      have hbi6 := hbr.trans hb6
      clear hgr6 hat6 hlt6 hb6 hbr hown
      go_wp2_with fail
      go_ret
      exact ⟨_, rfl, by rw [HE.out.1, HE.out.2, textV_append]; exact hown6, hbi6⟩

end Go.Proofs.Ytnjaofkieajnlab

/- The program's inbox: Lacks; the data of all parts; whether two lists are the same. -/
namespace Go.Proofs.Ytnjaofkieajnlab
open Go.RowKit

/-- How many sheets the first parts lack. -/
def lacksTo (K : Nat) (ks : Nat → Kn) : Nat → Nat
  | 0 => 0
  | i + 1 => lacksTo K ks i + openK (ks i) K

theorem lacksTo_le (K : Nat) (ks : Nat → Kn) (i : Nat) : lacksTo K ks i ≤ i * K := by
  induction i with
  | zero => exact Nat.zero_le _
  | succ i ih =>
    show lacksTo K ks i + openK (ks i) K ≤ _
    have := openK_le (ks i) K
    rw [Nat.succ_mul]
    omega

set_option maxRecDepth 100000 in
set_option maxHeartbeats 4000000 in
theorem llacks_none (p : Nat) (tt : TypeId) (K M O S z m : Nat) (ks : Nat → Kn) (w : World) (hc : InbAt w p tt 0 K M O S z m ks) :
    Calls Try.prog 40 #[.pointer (some ⟨p, 0, none⟩)] w fun e w' => e = .returned (.int .i64 (-1)) ∧ w' = w := by
  obtain ⟨c0, _⟩ := hc.head
  have c0' : w.cell? ⟨p, 0, none⟩ = some (.int .i64 0) := c0
  clear hc c0
  go_enter Try.func40, Try.ntmps40
  go_wp2_with fail
  go_ret
  exact ⟨rfl, rfl⟩

set_option maxRecDepth 100000 in
set_option maxHeartbeats 4000000 in
theorem llacks_has (p : Nat) (tt : TypeId) (c K M O S z : Nat) (ks : Nat → Kn) (w : World) (h1 : 1 ≤ c ∧ c ≤ 20) (hK : K ≤ 20) (hc : InbAt w p tt c K M O S z c ks) :
    Calls Try.prog 40 #[.pointer (some ⟨p, 0, none⟩)] w fun e w' => e = .returned (.int .i64 (lacksTo K ks c : Int)) ∧ w' = w := by
  obtain ⟨c0, _⟩ := hc.head
  have hb : ((c : Int) == 0) = false := by simp; omega
  have hne := fun i (hi : i < c) => qneed_any p (6 + i * 83) 1666 tt _ K (K + M) z (ofs K M O S) (ks i) w hK (hc.box hi (by omega))
  clear hc
  go_enter Try.func40, Try.ntmps40
  go_wp2_with fail
  go_loop [3, 4] (fun lv iv => ∃ i : Nat, i ≤ c ∧ iv = .int .i64 (i : Int) ∧ lv = .int .i64 (lacksTo K ks i : Int)) (fun _ iv => c - (intOf iv).toNat)
  case atStart => exact ⟨0, Nat.zero_le _, rfl, rfl⟩
  case round =>
    obtain ⟨i, hi, rfl, rfl⟩ := hrel
    have hle := lacksTo_le K ks i
    have hle2 : i * K ≤ 400 := Nat.le_trans (Nat.mul_le_mul (show i ≤ 20 by omega) hK) (by decide)
    by_cases hlt : i < c
    · have hn := hne i hlt
      have hs : lacksTo K ks (i + 1) = lacksTo K ks i + openK (ks i) K := rfl
      have ho := openK_le (ks i) K
      have Hs := hide hs
      clear hs
      have i1 : (0 : Int) ≤ (i : Int) := by omega
      have i2 : (i : Int) < 20 := by omega
      have i3 : (i : Int) < (c : Int) := by omega
      generalize lacksTo K ks i = L at *
      generalize openK (ks i) K = o at *
      have hL : L ≤ 400 := by omega
      clear hle hle2
      go_wp2_with fail
      refine hn.mono ?_
      rintro e w1 ⟨rfl, h1⟩
      obtain rfl := h1.symm
      go_wp2_with fail
      go_round
      case rel => exact ⟨i + 1, by omega, by go_num, by rw [Hs.out]; go_num⟩
      case measure => simp [intOf]; omega
    · have hjK : i = c := by omega
      have i3 : ¬ (i : Int) < (c : Int) := by omega
      have HE := hide hjK
      clear hjK hlt hle hle2
      go_wp2_with fail
      go_ret
      exact ⟨by rw [← HE.out]; rfl, rfl⟩

/-- The data of the parts. -/
def dataL (K : Nat) (F : Nat → Nat → ByteArray × Bool) (n : Nat) : List ByteArray := (List.range n).map (fun i => joinTo (F i) K)

theorem dataL_length (K : Nat) (F : Nat → Nat → ByteArray × Bool) (n : Nat) : (dataL K F n).length = n := by simp [dataL]

theorem dataL_succ (K : Nat) (F : Nat → Nat → ByteArray × Bool) (n : Nat) : dataL K F (n + 1) = dataL K F n ++ [joinTo (F n) K] := by
  unfold dataL
  rw [List.range_succ, List.map_append]; rfl

set_option maxRecDepth 100000 in
set_option maxHeartbeats 8000000 in
theorem ldata_any (p : Nat) (tt : TypeId) (c K M O S z : Nat) (ks : Nat → Kn) (F : Nat → Nat → ByteArray × Bool) (w : World) (hK : 1 ≤ K ∧ K ≤ 20) (hM : M ≤ 20) (hz : 1 ≤ z ∧ z ≤ 16) (hc20 : c ≤ 20) (hkn : ∀ i, i < c → KnOk K z (ks i)) (hc : InbAt w p tt c K M O S z c ks)
    (hF : ∀ i, i < c → ∀ j, j < K → ((F i j).2 = true ↔ (left (ks i) (ofs K M O S j) (zeroB z)).1 = 0)) (hF1 : ∀ i, i < c → ∀ j, j < K → (F i j).1 = (left (ks i) (ofs K M O S j) (zeroB z)).2) (hFs : ∀ i, i < c → ∀ j, (F i j).1.size = z) :
    Calls Try.prog 61 #[.pointer (some ⟨p, 0, none⟩)] w fun e w' => (((∀ i, i < c → ∀ j, j < K → (F i j).2 = true) → ∃ v, e = .returned (.tuple #[v, .int .i64 0]) ∧ w'.ownsRow w.heap.size 9 1 v c (textV (dataL K F c))) ∧ (¬ (∀ i, i < c → ∀ j, j < K → (F i j).2 = true) → e = .returned (.tuple #[.slice none 0 0, .int .i64 5]))) ∧ Below w.heap.size w w' := by
  obtain ⟨j0, gi, gz0, gz1, gz2⟩ := info_parts Try.infoText
  have hmk : ∀ w, (Instr.makeSlice 27 (.int .i64 0) (.int .i64 20)).run Try.prog w = .ok (.slice (some ⟨w.heap.size, 0, none⟩) 0 20) (w.alloc (.cells (madeCells #[.string ByteArray.empty] 20) 9)) := run_make_texts 20 (by omega)
  have hda : ∀ i, i < c → ∀ W, InbAt W p tt c K M O S z c ks → _ := fun i hi W hW => qdata_any p (6 + i * 83) 1666 tt _ K (K + M) z (ofs K M O S) (ks i) (F i) W hK (hkn i hi) (ofs_lt K M O S) hz (by omega) (by omega) (hW.box hi (by omega)) (hF i hi) (hF1 i hi) (hFs i hi)
  have hsu := dataL_succ K F
  obtain ⟨PA, hPA⟩ : ∃ PA : Prop, PA = ∀ i, i < c → ∀ j, j < K → (F i j).2 = true := ⟨_, rfl⟩
  rw [← hPA]
  have HPA := hide hPA
  clear hPA
  have HD := hide hda
  have HS := hide hsu
  clear hF hF1 hFs hkn hda hsu
  go_enter Try.func61, Try.ntmps61
  go_upto_region 2 with fail
  have hst : (w.alloc (.cells (madeCells #[.string ByteArray.empty] 20) 9)).ownsRow w.heap.size 9 1 (.slice (some ⟨w.heap.size, 0, none⟩) 0 20) 0 (textV (dataL K F 0)) := World.ownsRow_made (base := w.heap.size) (e := 9) (size := 1) w (madeCells #[.string ByteArray.empty] 20) 20 (Nat.le_refl _) (by unfold maxLen; omega) (by simp [size_madeCells])
  have hbS : Below w.heap.size w (w.alloc (.cells (madeCells #[.string ByteArray.empty] 20) 9)) := (Below.refl _ _).alloc (Nat.le_refl _) _
  generalize w.alloc (.cells (madeCells #[.string ByteArray.empty] 20) 9) = W at *
  clear hmk
  go_wp2_with fail
  go_loopw [4, 5] (fun av iv wr => ∃ i : Nat, i ≤ c ∧ iv = .int .i64 (i : Int) ∧ (∀ i', i' < i → ∀ j, j < K → (F i' j).2 = true) ∧ wr.ownsRow w.heap.size 9 1 av i (textV (dataL K F i)) ∧ Below w.heap.size w wr) (fun _ iv _ => c - (intOf iv).toNat)
  case atStart => exact ⟨0, Nat.zero_le _, rfl, fun i' h => absurd h (Nat.not_lt_zero _), hst, hbS⟩
  case round =>
    clear hst hbS
    obtain ⟨i, hi, rfl, hall, hown, hbr⟩ := hrel
    have hcr := hc.on (Nat.le_refl _) hbr
    obtain ⟨c0, _⟩ := hcr.head
    have HA := hide hall
    clear hall
    have hsw := hbr.size
    by_cases hlt : i < c
    · have hd := HD.out i hlt wr hcr
      have i1 : (0 : Int) ≤ (i : Int) := by omega
      have i2 : (i : Int) < 20 := by omega
      have i3 : (i : Int) < (c : Int) := by omega
      have hs2 := HS.out i
      have HS2 := hide hs2
      clear hs2
      go_wp2_with fail
      refine hd.mono ?_
      rintro e w1 ⟨⟨h1, h2⟩, hb1⟩
      have hbw1 := hbr.trans (hb1.mono hbr.size)
      have hown1 := owns_below hown hb1
      have hsw1 := hbw1.size
      clear hd hown c0 hcr
      by_cases hf : ∀ j, j < K → (F i j).2 = true
      · rw [h1 hf]
        have HF := hide hf
        clear h1 h2 hf hb1
        generalize joinTo (F i) K = T at *
        go_wp2_with (at_builtin; refine wpList_append_lies _ rfl (.tmp 29) (.tmp 31) 27 rfl w.heap.size 9 j0 (.string ByteArray.empty) 1 16 Try.underlying27 gi gz0 gz1 gz2 rfl (by decide) _ _ _ rfl (hown1.alloc _) ⟨w1.heap.size, 0, none⟩ 1 1 [.string T] rfl rfl (one_news _ _ _) (one_oneCell rfl) (by decide) (by unfold maxLen; omega) (by omega) (by simp; omega) (w1.heap.size + 1) (by simp) ?_)
        intro g6 k6 W6 hown6 hgr6 hat6 hlt6
        have hb6 := below_own hown1 hgr6 hsw1
        have hbi6 := hbw1.trans hb6
        clear hgr6 hat6 hlt6 hb6 hbw1 hown1
        go_wp2_with fail
        go_roundw
        case rel => exact ⟨i + 1, by omega, by go_num, fun i' hi' j hj => by
            by_cases e : i' < i
            · exact HA.out i' e j hj
            · have : i' = i := by omega
              rw [this]; exact HF.out j hj, by rw [HS2.out, textV_append]; exact hown6, hbi6⟩
        case measure => simp [intOf]; omega
      · rw [h2 hf]
        have HF := hide (show ¬ PA from fun h => by rw [HPA.out] at h; exact hf (h i hlt))
        clear h1 h2 hf hb1
        go_wp2_with fail
        go_ret2
        exact ⟨⟨fun h => absurd h HF.out, fun _ => rfl⟩, hbw1⟩
    · have hii : i = c := by omega
      have i3 : ¬ (i : Int) < (c : Int) := by omega
      rw [hii] at hown
      have HI := hide hii
      clear hii hlt
      go_wp2_with fail
      go_ret2
      exact ⟨⟨fun _ => ⟨_, rfl, hown⟩, fun h => absurd (by rw [HPA.out]; exact fun i' hi' => HA.out i' (by have := HI.out; omega)) h⟩, hbr⟩

set_option maxRecDepth 100000 in
set_option maxHeartbeats 8000000 in
theorem lsame_any (va vb : Value) (A B : List ByteArray) (w : World) (hl : A.length ≤ 1000000) (ha : TextsAt w va A) (hb : TextsAt w vb B) :
    Calls Try.prog 71 #[va, vb] w fun e w' => (A = B → e = .returned (.bool true)) ∧ (A ≠ B → e = .returned (.bool false)) ∧ Below w.heap.size w w' := by
  have hbd : ∀ n, Below w.heap.size w (w.drewN n) := fun n => ⟨rfl, rfl, rfl, Nat.le_refl _, fun _ _ => rfl⟩
  obtain ⟨aa, ca, rfl, hca, hA⟩ := ha
  obtain ⟨ab, cb, rfl, hcb, hB⟩ := hb
  have HA := hide hA
  have HB := hide hB
  clear hA hB
  by_cases hlen : A.length = B.length
  · have hne : ((A.length : Int) != (B.length : Int)) = false := by rw [hlen]; simp
    have hext : (∀ k, k < A.length → A.getD k ByteArray.empty = B.getD k ByteArray.empty) → A = B := fun h => by
      apply List.ext_getElem hlen
      intro k h1 h2
      have := h k h1
      rw [List.getD_eq_getElem?_getD, List.getD_eq_getElem?_getD, List.getElem?_eq_getElem h1, List.getElem?_eq_getElem h2] at this
      exact this
    have HX := hide hext
    have HL := hide hlen
    clear hext hlen
    obtain ⟨n, hn⟩ : ∃ n, n = A.length := ⟨_, rfl⟩
    obtain ⟨m, hm⟩ : ∃ m, m = B.length := ⟨_, rfl⟩
    rw [← hn] at hne hca HA HX HL hl ⊢
    rw [← hm] at hne hcb HB HL ⊢
    clear hn hm
    go_enter Try.func71, Try.ntmps71
    go_wp2_with fail
    go_loopw [13] (fun kv wr => ∃ k : Nat, k ≤ n ∧ kv = .int .i64 (k : Int) ∧ (∀ j, j < k → A.getD j ByteArray.empty = B.getD j ByteArray.empty) ∧ Below w.heap.size w wr) (fun kv _ => n - (intOf kv).toNat)
    case atStart => exact ⟨0, Nat.zero_le _, rfl, fun j h => absurd h (Nat.not_lt_zero _), Below.refl _ _⟩
    case round =>
      obtain ⟨k, hk, rfl, hsm, hbr⟩ := hrel
      have HSm := hide hsm
      clear hsm
      by_cases hlt : k < n
      · obtain ⟨q1, o1, rfl, hq1, t1⟩ := HA.out k hlt
        obtain ⟨q2, o2, rfl, hq2, t2⟩ := HB.out k (by have := HL.out; omega)
        have r1 := (hbr.cell (p := ⟨q1, o1 + k, none⟩) hq1).trans t1
        have r2 := (hbr.cell (p := ⟨q2, o2 + k, none⟩) hq2).trans t2
        have i1 : (0 : Int) ≤ (k : Int) := by omega
        have i2 : (k : Int) < (n : Int) := by omega
        have i3 : (k : Int) < (m : Int) := by have := HL.out; omega
        have hbN : ∀ x, Below w.heap.size w (wr.drewN x) := fun x => hbr.trans ⟨rfl, rfl, rfl, Nat.le_refl _, fun _ _ => rfl⟩
        clear t1 t2 hbd
        by_cases he : A.getD k ByteArray.empty = B.getD k ByteArray.empty
        · have HE := hide he
          rw [← he] at r2
          clear he
          obtain ⟨T, hT⟩ : ∃ T, T = A.getD k ByteArray.empty := ⟨_, rfl⟩
          rw [← hT] at r1 r2
          clear hT
          go_upto_region 6 with fail
          go_quiet (fail)
          have hbe := hbN nq
          generalize wr.drewN nq = V at *
          clear r1 r2 hbN hbr
          go_wp2_with fail
          go_roundw
          case rel => exact ⟨k + 1, by omega, by go_num, fun j hj => by
              by_cases e : j < k
              · exact HSm.out j e
              · have : j = k := by omega
                rw [this]; exact HE.out, hbe⟩
          case measure => simp [intOf]; omega
        · have HE := hide (show A ≠ B from fun e => he (by rw [e]))
          have hbb : ((A.getD k ByteArray.empty).toList == (B.getD k ByteArray.empty).toList) = false := beq_bytes he
          clear he
          generalize A.getD k ByteArray.empty = T at *
          generalize B.getD k ByteArray.empty = T2 at *
          go_upto_region 6 with fail
          go_quiet (fail)
          have hbe := hbN nq
          generalize wr.drewN nq = V at *
          clear r1 r2 hbN hbr
          go_wp2_with fail
          go_ret
          exact ⟨fun h => absurd h HE.out, fun _ => rfl, hbe⟩
      · have hk2 : k = n := by omega
        have i2 : ¬ (k : Int) < (n : Int) := by omega
        have HE := hide (HX.out (fun j hj => HSm.out j (by omega)))
        clear hk2 hlt
        go_wp2_with fail
        go_ret
        exact ⟨fun _ => rfl, fun h => absurd HE.out h, hbr⟩
  · have hne : ((A.length : Int) != (B.length : Int)) = true := by simp; omega
    have HE := hide (show A ≠ B from fun e => hlen (by rw [e]))
    clear hlen
    go_enter Try.func71, Try.ntmps71
    go_wp2_with fail
    go_ret
    exact ⟨fun h => absurd h HE.out, fun _ => rfl, Below.refl _ _⟩

end Go.Proofs.Ytnjaofkieajnlab
