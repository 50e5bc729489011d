/- The program's data of an object. -/
import Derived.Test.YtnjaofkieajnlaaPText
import Derived.Test.YtnjaofkieajnlaaSendR
namespace Go.Proofs.Ytnjaofkieajnlaa
open Go.RowKit

/-- How long a slice is. -/
def lenS (v : Value) : Nat := match v with
  | .slice _ n _ => n
  | _ => 0

/-- Some of a row's bytes, as a text. -/
theorem conv_part (B : ByteArray) (g n c base m k c2 : Nat) (w : World) (h : w.ownsRow base 5 1 (.slice (some ⟨g, 0, none⟩) n c) n (bytesV B)) (hm : m + k ≤ B.size) : (convert 53 9 (.slice (some ⟨g, m, none⟩) k c2)).run Try.prog w = .ok (.string (B.extract m (m + k))) w := by
  have hcell := h.cells (g := g) rfl
  have hsz : (B.extract m (m + k)).size = k := by rw [ByteArray.size_extract]; omega
  have hcells : ∀ j, j < k → w.cell? ⟨g, m + j, none⟩ = some (.int .u8 ((numsB (B.extract m (m + k))).getD j 0)) := fun j hj => by
    rw [numsB_getD]
    have h1 := hcell (m + j) _ (bytesV_getElem B (m + j) (by omega))
    rw [Addr.add_mid, Nat.zero_add] at h1
    rw [h1]
    have : byteAt (B.extract m (m + k)) j = byteAt B (m + j) := by
      rw [← byteAt_get _ _ (show j < (B.extract m (m + k)).size by omega), ← byteAt_get _ _ (show m + j < B.size by omega)]
      rw [ByteArray.getElem_extract]
    rw [this]
  have hcv := run_convert_bytes_arg (P := Try.prog) w 53 5 Try.underlying53 Try.underlying5 g m k c2 (numsB (B.extract m (m + k))) (by rw [numsB_length]; exact hsz) hcells 9 Try.underlying9
  rw [strOfNums_numsB] at hcv
  exact hcv

set_option maxRecDepth 100000 in
set_option maxHeartbeats 8000000 in
theorem pdata_any (K z N : Nat) (o : ByteArray) (w : World) (hz : 1 ≤ z ∧ z ≤ 16) (hK : 1 ≤ K ∧ K ≤ 20) (hN : N = K * z) (ho : o.size + 2 ≤ N) :
    Calls Try.prog 79 #[.int .i64 (K : Int), .int .i64 (z : Int), .string o] w fun e w' => ∃ v, e = .returned v ∧ w'.ownsRow w.heap.size 9 1 v K (textV (cutTo (objT N o) z K)) ∧ Below w.heap.size w w' := by
  have hN2 : N ≤ 320 := by rw [hN]; exact Nat.le_trans (Nat.mul_le_mul hK.2 hz.2) (by decide)
  have hmul : (K : Int) * (z : Int) = (N : Int) := by rw [hN]; simp
  have hm1 : 0 ≤ (K : Int) * (z : Int) := by rw [hmul]; omega
  have hm2 : (K : Int) * (z : Int) ≤ 320 := by rw [hmul]; omega
  obtain ⟨i0, hi0, hz0, hz1, hz2⟩ := info_parts Try.infoByte
  obtain ⟨j0, gi, gz0, gz1, gz2⟩ := info_parts Try.infoText
  have hmk : ∀ w, (Instr.makeSlice 53 (.int .i64 0) (.int .i64 ((K : Int) * (z : Int)))).run Try.prog w = .ok (.slice (some ⟨w.heap.size, 0, none⟩) 0 N) (w.alloc (.cells (madeCells #[.int .u8 0] N) 5)) := fun w => by
    rw [hmul]; exact run_make_byteRow N (by omega) w
  have hmk2 := run_make_texts K (by omega)
  have hob : objT N o = lenB o.size ++ o ++ zeroB (N - (2 + o.size)) := rfl
  have hos : (objT N o).size = N := objT_size N o ho
  have n1 : bytesV (lenB o.size) = [.int .u8 ((o.size % 256 : Nat) : Int), .int .u8 ((o.size / 256 : Nat) : Int)] := by
    unfold bytesV; rw [numsB_len o.size (by omega)]; rfl
  have hls : (lenB o.size).size = 2 := rfl
  generalize lenB o.size = lb at *
  generalize objT N o = T at *
  have HO := hide hob
  have HM := hide hmul
  have HN := hide hN
  have N1 := hide n1
  clear hob hmul hN n1
  go_enter Try.func79, Try.ntmps79
  go_upto_region 2 with fail
  have hbA : Below w.heap.size w (w.alloc (.cells (madeCells #[.int .u8 0] N) 5)) := (Below.refl _ _).alloc (Nat.le_refl _) _
  have hown : (w.alloc (.cells (madeCells #[.int .u8 0] N) 5)).ownsRow w.heap.size 5 1 (.slice (some ⟨w.heap.size, 0, none⟩) 0 N) 0 [] := World.ownsRow_made (base := w.heap.size) (e := 5) (size := 1) w (madeCells #[.int .u8 0] N) N (Nat.le_refl _) (by unfold maxLen; omega) (by simp [size_madeCells])
  have hsz : w.heap.size ≤ (w.alloc (.cells (madeCells #[.int .u8 0] N) 5)).heap.size := by simp
  generalize w.alloc (.cells (madeCells #[.int .u8 0] N) 5) = W at *
  clear hmk
  go_wp2_with (at_builtin; refine wpList_append_lies _ rfl (.tmp 15) (.tmp 24) 53 rfl w.heap.size 5 i0 (.int .u8 0) 1 1 Try.underlying53 hi0 hz0 hz1 hz2 rfl (by decide) _ _ _ rfl (hown.alloc _) ⟨W.heap.size, 0, none⟩ 2 2 (bytesV lb) rfl (by rw [bytesV_len, hls]) (byte_news W lb _ (by rw [N1.out]; rfl)) (bytesV_one lb) (by decide) (by unfold maxLen; omega) (by omega) (by simp; omega) (W.heap.size + 1) (by simp) ?_)
  intro g1 k1 W1 hown1 hgr1 hat1 hlt1
  have hb1 := below_own hown hgr1 hsz
  have hbA1 := hbA.trans hb1
  have hown1' : W1.ownsRow w.heap.size 5 1 (.slice (some ⟨g1, 0, none⟩) 2 k1) 2 (bytesV lb) := hown1
  clear hown hgr1 hat1 hlt1 hbA hb1 hown1 hsz N1
  have hsz1 := hbA1.size
  go_wp2_with (at_builtin; refine Go.Lib.wpList_append_own_string _ rfl (.tmp 26) (.tmp 27) 53 9 rfl w.heap.size 5 i0 Try.underlying53 Try.underlying9 hi0 hz0 hz1 hz2 _ _ _ rfl hown1' o rfl (by unfold maxLen; omega) (by omega) (by omega) ?_)
  intro v2 W2 hown2 hgr2 hn2
  have hb2 := below_ownS hown1' hgr2 hsz1
  have hbA2 := hbA1.trans hb2
  rw [bytesV_str, ← bytesV_app] at hown2
  obtain ⟨g2, k2, rfl, hg2, hgl2⟩ := hown2.form (by omega)
  clear hown1' hgr2 hn2 hbA1 hb2 hsz1
  have hts : (lb ++ o).size = 2 + o.size := by rw [ByteArray.size_append, hls]
  generalize lb ++ o = t0 at *
  go_wp2_with fail
  go_loopw [7] (fun tv wr => ∃ (k g c : Nat), 2 + o.size + k ≤ N ∧ tv = .slice (some ⟨g, 0, none⟩) (2 + o.size + k) c ∧ wr.ownsRow w.heap.size 5 1 tv (2 + o.size + k) (bytesV (t0 ++ zeroB k)) ∧ Below w.heap.size w wr) (fun tv _ => N - lenS tv)
  case atStart => exact ⟨0, g2, k2, by omega, rfl, by rw [show zeroB 0 = ByteArray.empty from rfl, ByteArray.append_empty]; exact hown2, hbA2⟩
  case round =>
    clear hown2 hbA2 hg2 hgl2
    obtain ⟨k, g, c, hk1, rfl, hown, hbw⟩ := hrel
    have hsw := hbw.size
    by_cases hlt : 2 + o.size + k < N
    · have hc1 : ((2 : Int) + (o.size : Int) + (k : Int)) < (K : Int) * (z : Int) := by rw [HM.out]; omega
      have hps := pad_succ t0 k
      have Hps := hide hps
      have n5 : bytesV ⟨#[0]⟩ = [.int .u8 0] := rfl
      have s5 : (ByteArray.mk #[0]).size = 1 := rfl
      have N5 := hide n5
      clear hps n5
      generalize ByteArray.mk #[0] = B5 at *
      go_wp2_with (at_builtin; refine wpList_append_lies _ rfl (.tmp 35) (.tmp 36) 53 rfl w.heap.size 5 i0 (.int .u8 0) 1 1 Try.underlying53 hi0 hz0 hz1 hz2 rfl (by decide) _ _ _ rfl (hown.alloc _) ⟨wr.heap.size, 0, none⟩ 1 1 (bytesV B5) rfl (by rw [bytesV_len, s5]) (byte_news wr B5 _ (by rw [N5.out])) (bytesV_one B5) (by decide) (by unfold maxLen; omega) (by omega) (by simp; omega) (wr.heap.size + 1) (by simp) ?_)
      intro g3 k3 W3 hown3 hgr3 hat3 hlt3
      have hb3 := below_own hown hgr3 hsw
      have hbw3 := hbw.trans hb3
      rw [← bytesV_app, Hps.out] at hown3
      clear hgr3 hat3 hlt3 hb3 hbw hown
      go_wp2_with fail
      go_roundw
      case rel => exact ⟨k + 1, g3, k3, by omega, rfl, hown3, hbw3⟩
      case measure => simp only [lenS]; omega
    · have hc1 : ¬ ((2 : Int) + (o.size : Int) + (k : Int)) < (K : Int) * (z : Int) := by rw [HM.out]; omega
      have hkN : k = N - (2 + o.size) := by omega
      have hT : t0 ++ zeroB k = T := by rw [hkN]; exact HO.out.symm
      rw [hT] at hown
      have hlN : 2 + o.size + k = N := by omega
      rw [hlN] at hown ⊢
      clear HO hT hkN hlt hlN hk1 hc1
      have hc1 : ¬ (N : Int) < (K : Int) * (z : Int) := by rw [HM.out]; omega
      have hcap : N ≤ c := by
        rcases hown.2 with ⟨h, _⟩ | ⟨g', c', cur, h, _, _, hc, _⟩
        · cases h
        · injection h with h1 h2 h3; omega
      have hgw : g < wr.heap.size := (hown.lt g rfl).2
      go_upto_region 7 with fail
      have hst : (wr.alloc (.cells (madeCells #[.string ByteArray.empty] K) 9)).ownsRow wr.heap.size 9 1 (.slice (some ⟨wr.heap.size, 0, none⟩) 0 K) 0 (textV (cutTo T z 0)) := World.ownsRow_made (base := wr.heap.size) (e := 9) (size := 1) wr (madeCells #[.string ByteArray.empty] K) K (Nat.le_refl _) (by unfold maxLen; omega) (by simp [size_madeCells])
      have hbS : Below wr.heap.size wr (wr.alloc (.cells (madeCells #[.string ByteArray.empty] K) 9)) := (Below.refl _ _).alloc (Nat.le_refl _) _
      generalize wr.alloc (.cells (madeCells #[.string ByteArray.empty] K) 9) = W5 at *
      clear hmk2
      obtain ⟨V, hV⟩ : ∃ V, V = wr := ⟨_, rfl⟩
      rw [← hV] at hown hst hbS hbw hsw hgw
      rw [← hV]
      clear hV
      go_wp2_with fail
      go_loopw [8, 9] (fun dv iv wi => ∃ j : Nat, j ≤ K ∧ iv = .int .i64 (j : Int) ∧ wi.ownsRow V.heap.size 9 1 dv j (textV (cutTo T z j)) ∧ Below V.heap.size V wi) (fun _ iv _ => K - (intOf iv).toNat)
      case atStart => exact ⟨0, Nat.zero_le _, rfl, hst, hbS⟩
      case round =>
        clear hst hbS
        obtain ⟨j, hj, rfl, hod, hbi⟩ := hrel
        by_cases hjK : j < K
        · have hjm : (j : Int) * (z : Int) = ((j * z : Nat) : Int) := by simp
          have hmz : j * z + z ≤ N := by rw [HN.out, ← Nat.succ_mul]; exact Nat.mul_le_mul_right z hjK
          have hcut : cutTo T z (j + 1) = cutTo T z j ++ [T.extract (j * z) (j * z + z)] := rfl
          have Hcut := hide hcut
          have j1 : 0 ≤ (j : Int) * (z : Int) := by rw [hjm]; omega
          have j2 : (j : Int) * (z : Int) ≤ 320 := by rw [hjm]; omega
          have hown2 := owns_of_block (w' := wr) hown (fun k hk => hbi.block k (hown.lt k hk).2)
          have hcv := conv_part T g N c w.heap.size (j * z) z (c - j * z) wr hown2 (by rw [hos]; exact hmz)
          have HJ := hide hjm
          clear hcut hjm
          go_upto_region 11 with fail
          rw [HJ.out]
          clear j1 j2 HJ
          generalize j * z = m at *
          have hsi := Nat.le_trans (Nat.le_refl _) hbi.size
          go_wp2_with (at_builtin; refine wpList_append_lies _ rfl (.tmp 48) (.tmp 56) 28 rfl V.heap.size 9 j0 (.string ByteArray.empty) 1 16 Try.underlying28 gi gz0 gz1 gz2 rfl (by decide) _ _ _ rfl (hod.alloc _) ⟨wr.heap.size, 0, none⟩ 1 1 [.string (T.extract m (m + z))] rfl rfl (one_news _ _ _) (one_oneCell rfl) (by decide) (by unfold maxLen; omega) (by omega) (by simp; omega) (wr.heap.size + 1) (by simp) ?_)
          intro g6 k6 W6 hown6 hgr6 hat6 hlt6
          have hb6 := below_own hod hgr6 hsi
          have hbi6 := hbi.trans hb6
          clear hgr6 hat6 hlt6 hb6 hbi hod hown2 hcv
          go_wp2_with fail
          go_roundw
          case rel => exact ⟨j + 1, by omega, by go_num, by rw [Hcut.out, textV_append]; exact hown6, hbi6⟩
          case measure => simp [intOf]; omega
        · have hjj : j = K := by omega
          subst hjj
          have hff := hbw.trans (hbi.mono hsw)
          have hof := owns_low hod hsw
          go_wp2_with fail
          go_ret
          exact ⟨_, rfl, hof, hff⟩

end Go.Proofs.Ytnjaofkieajnlaa
