/- Texts of the proof, part 15. -/
import Derived.Test.YtnjaofkieajnlabCarriedG10
import Derived.Test.YtnjaofkieajnlabCarriedG11
import Derived.Test.YtnjaofkieajnlabCarriedG13
import Derived.Test.YtnjaofkieajnlabCarriedG3
import Derived.Test.YtnjaofkieajnlabCarriedG7

/- An object's packets, heard: plain mathematics. -/
namespace Go.Proofs.Ytnjaofkieajnlab

theorem mayB_of {K M O S z : Nat} (h : SpecOk K M O S z) : mayB K M O S = true := by
  obtain ⟨hK, hM, hO, hS, hz⟩ := h
  simp [mayB]
  omega

/-- The first bytes of a packet. -/
theorem packB_byte (K M O S z i : Nat) (q : ByteArray) (j : Nat) (hj : j < 8) : byteAt (packB K M O S z i q) j = byteAt (ByteArray.mk #[82] ++ headB K M O S z i) j := by
  unfold packB
  rw [byteAt_left _ _ _ (by rw [packT_size]; omega)]
  unfold packT
  rw [byteAt_left _ _ _ (by show j < 8; exact hj)]

theorem u8_nat (n : Nat) (h : n ≤ 255) : (UInt8.ofNat n).toNat = n := by rw [UInt8.toNat_ofNat']; omega

structure IsPack (K M O S z i : Nat) (q p : ByteArray) : Prop where
  ok : PacketOk p
  k : rK p = K
  m : rM p = M
  o : rO p = O
  s : rS p = S
  z : rZ p = z
  i : rI p = i
  q : rQ p = q

theorem packB_is {K M O S z i : Nat} {q : ByteArray} (hs : SpecOk K M O S z) (hi : i < K + M) (hq : q.size = z) : IsPack K M O S z i q (packB K M O S z i q) := by
  obtain ⟨hK, hM, hO, hS, hz⟩ := hs
  have e1 : rK (packB K M O S z i q) = K := by unfold rK; rw [packB_byte _ _ _ _ _ _ _ 1 (by omega)]; exact u8_nat K (by omega)
  have e2 : rM (packB K M O S z i q) = M := by unfold rM; rw [packB_byte _ _ _ _ _ _ _ 2 (by omega)]; exact u8_nat M (by omega)
  have e3 : rO (packB K M O S z i q) = O := by unfold rO; rw [packB_byte _ _ _ _ _ _ _ 3 (by omega)]; exact u8_nat O (by omega)
  have e4 : rS (packB K M O S z i q) = S := by
    unfold rS
    rw [packB_byte _ _ _ _ _ _ _ 4 (by omega), packB_byte _ _ _ _ _ _ _ 5 (by omega)]
    show (UInt8.ofNat (S % 256)).toNat + 256 * (UInt8.ofNat (S / 256)).toNat = S
    rw [u8_nat _ (by omega), u8_nat _ (by omega)]
    omega
  have e6 : rZ (packB K M O S z i q) = z := by unfold rZ; rw [packB_byte _ _ _ _ _ _ _ 6 (by omega)]; exact u8_nat z (by omega)
  have e7 : rI (packB K M O S z i q) = i := by unfold rI; rw [packB_byte _ _ _ _ _ _ _ 7 (by omega)]; exact u8_nat i (by omega)
  have hsz := packB_size K M O S z i q
  have eq : rQ (packB K M O S z i q) = q := by
    unfold rQ
    rw [hsz]
    refine bytes_ext (by rw [ByteArray.size_extract, hsz]; omega) (fun j hj => ?_)
    rw [ByteArray.size_extract, hsz] at hj
    rw [byteAt_extract _ _ _ _ (by rw [hsz]; omega) (by omega)]
    unfold packB
    rw [byteAt_left _ _ _ (by rw [packT_size]; omega)]
    unfold packT
    rw [byteAt_right _ _ _ (by show 8 ≤ 8 + j; omega) (by show 8 + j < 8 + q.size; omega)]
    show byteAt q (8 + j - 8) = _
    rw [Nat.add_sub_cancel_left]
  have hok : PacketOk (packB K M O S z i q) := by
    refine (readsOk_iff _ (by rw [hsz]; omega)).1 ?_
    rw [e1, e2, e3, e4, e6, e7, eq]
    exact ⟨mayB_of ⟨hK, hM, hO, hS, hz⟩, hi, hq, rfl⟩
  exact ⟨hok, e1, e2, e3, e4, e6, e7, eq⟩

theorem addTo_set (p : ByteArray) (m : Nat) (x : UInt8) (hm : m < p.size) (n : Nat) : addTo (setByte p m x) n = if m < n then addTo p n + (x - byteAt p m) else addTo p n := by
  induction n with
  | zero => rfl
  | succ n ih =>
    show addTo (setByte p m x) n + byteAt (setByte p m x) n = _
    rw [ih, byteAt_setByte p m x hm n]
    have hs : addTo p (n + 1) = addTo p n + byteAt p n := rfl
    by_cases h1 : m < n
    · rw [if_pos h1, if_neg (by omega), if_pos (by omega), hs]
      apply UInt8.toNat_inj.1
      simp only [UInt8.toNat_add]
      omega
    · rw [if_neg h1]
      by_cases h2 : n = m
      · subst h2
        rw [if_pos rfl, if_pos (by omega), hs]
        apply UInt8.toNat_inj.1
        simp only [UInt8.toNat_add, UInt8.toNat_sub]
        have := (byteAt p n).toNat_lt
        have := x.toNat_lt
        omega
      · rw [if_neg h2, if_neg (by omega), hs]

/-- A packet with one byte turned is none. -/
theorem spoilt {p : ByteArray} (h : PacketOk p) {m : Nat} {x : UInt8} (hm : m < p.size) (hx : x ≠ byteAt p m) : ¬ PacketOk (setByte p m x) := by
  intro h2
  obtain ⟨_, _, _, _, _, _, ha⟩ := h
  obtain ⟨_, _, _, _, _, _, hb⟩ := h2
  rw [setByte_size, addTo_set p m x hm, if_pos hm, ha] at hb
  apply hx
  have h3 := congrArg UInt8.toNat hb
  have := (byteAt p m).toNat_lt
  have := x.toNat_lt
  apply UInt8.toNat_inj.1
  simp only [UInt8.toNat_add, UInt8.toNat_sub] at h3
  simp at h3
  omega

/-- What a catcher has taken is the word's. -/
structure CarOk (K M O S z : Nat) (P : List ByteArray) (s : CS) : Prop where
  ok : CSok s
  same : s.tk = true → K = s.K ∧ M = s.M ∧ O = s.O ∧ S = s.S ∧ z = s.z
  wkn : WKn K M O S z P s.kn

theorem CarOk.new (K M O S z : Nat) (P : List ByteArray) : CarOk K M O S z P CS.zero := ⟨CSok.new, fun h => (by cases h), WKn.new K M O S z P⟩

/-- What is told. -/
def toldIn (K M O S : Nat) (s : CS) (i : Nat) : Prop := sp ((KA s.kn).map Prod.fst) (ofs K M O S i)

theorem CarOk.hear {K M O S z : Nat} {P : List ByteArray} {s : CS} (h : CarOk K M O S z P s) (hs : SpecOk K M O S z) (hw : IsWord K M O S z P) {i : Nat} (hi : i < K + M) :
    hearE s (packB K M O S z i (P.getD i ByteArray.empty)) = 0 ∧ CarOk K M O S z P (hearS s (packB K M O S z i (P.getD i ByteArray.empty))) ∧ (hearS s (packB K M O S z i (P.getD i ByteArray.empty))).tk = true ∧ toldIn K M O S (hearS s (packB K M O S z i (P.getD i ByteArray.empty))) i ∧ (∀ j, toldIn K M O S s j → toldIn K M O S (hearS s (packB K M O S z i (P.getD i ByteArray.empty))) j) := by
  have hsz := hw.at_size hi
  obtain ⟨hp, e1, e2, e3, e4, e5, e6, e7⟩ := packB_is (i := i) (q := P.getD i ByteArray.empty) hs hi hsz
  generalize packB K M O S z i (P.getD i ByteArray.empty) = t at *
  have hL : hearL s t = left s.kn (ofs K M O S i) (P.getD i ByteArray.empty) := by unfold hearL; rw [e1, e2, e3, e4, e6, e7]
  have he : hearE s t = 0 := by
    rw [hearE_put hp (fun hk => by rw [e1, e2, e3, e4, e5]; exact h.same hk), hL, e5]
    unfold putE
    rw [if_neg (fun x => x.2 (h.wkn.nought hw hi x.1))]
  have hS : hearS s t = ⟨true, K, M, O, S, z, putK s.kn (ofs K M O S i) (P.getD i ByteArray.empty), if (hearL s t).1 = 0 then s.ps else s.ps ++ [(rI t, rQ t)]⟩ := by
    unfold hearS
    rw [if_pos he, e1, e2, e3, e4, e5, e6, e7]
  have hok := h.ok.hear t
  refine ⟨he, ⟨hok, fun _ => by rw [hS]; exact ⟨rfl, rfl, rfl, rfl, rfl⟩, by rw [hS]; exact h.wkn.put hw hs.hK.2 hi⟩, by rw [hS], ?_, fun j hj => ?_⟩
  · rw [hS]
    exact (sp_iff _ _).2 ⟨_, putK_has h.wkn.ok hs.hK.2 hsz (ofs_lt K M O S i) (fun h0 => h.wkn.nought hw hi h0)⟩
  · rw [hS]
    obtain ⟨v, hv⟩ := (sp_iff _ _).1 hj
    exact (sp_iff _ _).2 ⟨v, putK_keeps h.wkn.ok hs.hK.2 hsz (ofs_lt K M O S i) hv⟩

theorem CarOk.told {K M O S z : Nat} {P : List ByteArray} {s : CS} (h : CarOk K M O S z P s) (hk : s.tk = true) (j : Nat) : (csG s j).2 = true ↔ toldIn K M O S s j := by
  obtain ⟨e1, e2, e3, e4, e5⟩ := h.same hk
  unfold csG toldIn
  rw [decide_eq_true_iff, ← e1, ← e2, ← e3, ← e4, ← e5]
  exact (left_ok h.wkn.ok (ofs K M O S j) (zeroB z) (zeroB_size z)).zero

theorem CarOk.says {K M O S z : Nat} {P : List ByteArray} {s : CS} (h : CarOk K M O S z P s) (hw : IsWord K M O S z P) (hk : s.tk = true) {j : Nat} (hj : j < K + M) (ht : (csG s j).2 = true) : (csG s j).1 = P.getD j ByteArray.empty := by
  obtain ⟨e1, e2, e3, e4, e5⟩ := h.same hk
  unfold csG at ht ⊢
  rw [decide_eq_true_iff] at ht
  rw [← e1, ← e2, ← e3, ← e4, ← e5] at ht ⊢
  exact h.wkn.get hw hj ht

theorem joinTo_cuts (t : ByteArray) (z n : Nat) (h : n * z ≤ t.size) (F : Nat → ByteArray × Bool) (hF : ∀ j, j < n → (F j).1 = t.extract (j * z) (j * z + z)) : joinTo F n = t.extract 0 (n * z) := by
  induction n with
  | zero => rw [Nat.zero_mul]; simp [joinTo]
  | succ n ih =>
    rw [Nat.succ_mul] at h ⊢
    show joinTo F n ++ (F n).1 = _
    rw [ih (by omega) (fun j hj => hF j (by omega)), hF n (by omega)]
    simp

/-- An object's data are those of this object. -/
theorem objT_obj (N : Nat) (o : ByteArray) (h : o.size + 2 ≤ N) (hN : N ≤ 65000) : objOk (objT N o) = true ∧ objText (objT N o) = o := by
  have hs := objT_size N o h
  have hl2 : (lenB o.size).size = 2 := rfl
  have hlo : (lenB o.size ++ o).size = 2 + o.size := by rw [ByteArray.size_append, hl2]
  have b0 : byteAt (objT N o) 0 = UInt8.ofNat (o.size % 256) := by
    unfold objT
    rw [byteAt_left _ _ _ (by rw [hlo]; omega), byteAt_left _ _ _ (by rw [hl2]; omega)]; rfl
  have b1 : byteAt (objT N o) 1 = UInt8.ofNat (o.size / 256) := by
    unfold objT
    rw [byteAt_left _ _ _ (by rw [hlo]; omega), byteAt_left _ _ _ (by rw [hl2]; omega)]; rfl
  have hL : objLen (objT N o) = o.size := by
    unfold objLen
    rw [b0, b1, u8_nat _ (by omega), u8_nat _ (by omega)]
    omega
  constructor
  · unfold objOk
    rw [hL, hs, if_pos h]
    refine decide_eq_true ?_
    have hz := (zero_iff (objT N o) (2 + o.size) (by rw [hs]; omega)).2 (fun i h1 h2 => by
      unfold objT
      rw [byteAt_right _ _ _ (by rw [hlo]; exact h1) (by rw [hlo, zeroB_size]; rw [hs] at h2; omega), byteAt_zeroB])
    rwa [hs] at hz
  · unfold objText
    rw [hL, hs, if_pos h]
    refine bytes_ext (by rw [ByteArray.size_extract, hs]; omega) (fun i hi => ?_)
    rw [ByteArray.size_extract, hs] at hi
    rw [byteAt_extract _ _ _ _ (by rw [hs]; omega) (by omega)]
    unfold objT
    rw [byteAt_left _ _ _ (by rw [hlo]; omega), byteAt_right _ _ _ (by rw [hl2]; omega) (by rw [hl2]; omega), hl2, Nat.add_sub_cancel_left]

/-- What a catcher gives is the object, or nothing yet. -/
theorem CarOk.obj {K M O S z : Nat} {o : ByteArray} {s : CS} (h : CarOk K M O S z (objWord K M O S z o) s) (hs : SpecOk K M O S z) (ho : o.size + 2 ≤ K * z) : (s.tk = true ∧ csAll s = true ∧ objE s = (o, 0)) ∨ (¬ (s.tk = true ∧ csAll s = true) ∧ objE s = (⟨#[]⟩, 5)) := by
  by_cases hk : s.tk = true ∧ csAll s = true
  · refine Or.inl ⟨hk.1, hk.2, ?_⟩
    have hw := objWord_is (K := K) (M := M) (O := O) (S := S) (z := z) o ho
    have hts := objT_size (K * z) o ho
    obtain ⟨e1, e2, e3, e4, e5⟩ := h.same hk.1
    have hall := (csAll_iff s).1 hk.2
    have hKz : K * z ≤ 320 := Nat.le_trans (Nat.mul_le_mul hs.hK.2 hs.hz.2) (by decide)
    have hT : joinTo (csG s) s.K = objT (K * z) o := by
      rw [← e1] at hall ⊢
      rw [joinTo_cuts (objT (K * z) o) z K (by rw [hts]; exact Nat.le_refl _) (csG s) (fun j hj => by rw [h.says hw hk.1 (by omega) (hall j hj), objWord_data o hj])]
      generalize objT (K * z) o = T at hts ⊢
      rw [← hts]
      simp
    obtain ⟨g1, g2⟩ := objT_obj (K * z) o ho (by omega)
    unfold objE
    rw [if_pos hk, hT, if_pos g1, g2]
  · refine Or.inr ⟨hk, ?_⟩
    unfold objE
    rw [if_neg hk]

/-- Behind all packets of data. -/
theorem CarOk.whole {K M O S z : Nat} {o : ByteArray} {s : CS} (h : CarOk K M O S z (objWord K M O S z o) s) (hs : SpecOk K M O S z) (ho : o.size + 2 ≤ K * z) (hk : s.tk = true) (hall : ∀ j, j < K → toldIn K M O S s j) : objE s = (o, 0) ∧ wantE s = 0 := by
  obtain ⟨e1, e2, e3, e4, e5⟩ := h.same hk
  constructor
  · rcases h.obj hs ho with ⟨_, _, h1⟩ | ⟨h1, _⟩
    · exact h1
    · exact absurd ⟨hk, (csAll_iff s).2 (fun j hj => (h.told hk j).2 (hall j (by rw [e1]; exact hj)))⟩ h1
  · unfold wantE
    rw [if_pos hk, ← e1, open_some h.wkn.ok hs.hK.2 (fun j hj => by have := hall j hj; unfold toldIn at this; rwa [ofs_data K M O S j hj] at this)]
    rfl

end Go.Proofs.Ytnjaofkieajnlab

/- A text with one bit turned: which byte has turned. -/
namespace Go.Proofs.Ytnjaofkieajnlab
open Go.RowKit

set_option maxRecDepth 100000 in
set_option maxHeartbeats 1000000 in
theorem flipped_byte (p : ByteArray) (c : Int) (w : World) (h1 : -9223372036854775808 ≤ c) (h2 : c ≤ 9223372036854775807) (h0 : 0 < p.size) (hs : p.size ≤ 1000) :
    Calls Try.prog 14 #[.string p, .int .i64 c] w fun e w' => ∃ m x, e = .returned (.string (setByte p m x)) ∧ m < p.size ∧ x ≠ byteAt p m ∧ Below w.heap.size w w' := by
  obtain ⟨cap, W1, hrun, hcell, hfrz, hbel, hlt⟩ := bytes_run p w
  have HC := hide hcell
  have HF := hide hfrz
  clear hcell hfrz
  go_enter Try.func14, Try.ntmps14
  go_wp2_with fail
  refine (pick_any c _ _ h1 h2 (by omega)).mono ?_
  rintro e w1 ⟨rfl, rfl⟩
  have hm0 : 0 ≤ rawOf c % (8 * (p.size : Int)) := Int.emod_nonneg _ (by omega)
  have hm1 : rawOf c % (8 * (p.size : Int)) < 8 * (p.size : Int) := Int.emod_lt_of_pos _ (by omega)
  obtain ⟨k, hk⟩ := Int.eq_ofNat_of_zero_le hm0
  rw [hk] at hm1
  rw [hk]
  clear hm0 hk hrun
  have hkm : k / 8 < p.size := by omega
  have hc := HC.out (k / 8) hkm
  have hf := HF.out (k / 8) hkm
  have i1 : (0 : Int) ≤ (k : Int) / 8 := by omega
  have i2 : (k : Int) / 8 < (p.size : Int) := by omega
  obtain ⟨hy, hy0⟩ := pow_u8 (k % 8) (by omega)
  generalize (1 : UInt8) <<< UInt8.ofNat (k % 8) = y at *
  have hx := u8_xor_nat (byteAt p (k / 8)).toNat y.toNat (byteAt p (k / 8)).toNat_lt y.toNat_lt
  have hne := xor_other (byteAt p (k / 8)) _ hy0
  have Hne := hide hne
  clear hne
  have hcells : ∀ j, j < p.size → ((w1.setCell ⟨w.heap.size, k / 8, none⟩ (.int .u8 (((byteAt p (k / 8)).toNat ^^^ y.toNat : Nat) : Int))).drew).cell? ⟨w.heap.size, 0 + j, none⟩ = some (.int .u8 ((numsB (setByte p (k / 8) (byteAt p (k / 8) ^^^ y))).getD j 0)) := fun j hj => by
    rw [numsB_getD, byteAt_setByte p (k / 8) _ hkm, Nat.zero_add]
    show (w1.setCell _ _).cell? _ = _
    by_cases e : j = k / 8
    · rw [if_pos e, e, toNat_xor]
      exact World.cell?_setCell_same w1 _ _ hc
    · rw [if_neg e, World.cell?_setCell_other w1 _ _ _ (fun h => e (congrArg Addr.off h).symm)]
      exact HC.out j hj
  have hcv := run_convert_bytes_arg (P := Try.prog) _ 55 5 Try.underlying55 Try.underlying5 w.heap.size 0 p.size cap (numsB (setByte p (k / 8) (byteAt p (k / 8) ^^^ y))) (by rw [numsB_length, setByte_size]) hcells 9 Try.underlying9
  rw [strOfNums_numsB] at hcv
  clear hcells
  have hb2 := (hbel.setCell (p := ⟨w.heap.size, k / 8, none⟩) (Nat.le_refl _) (.int .u8 (((byteAt p (k / 8)).toNat ^^^ y.toNat : Nat) : Int))).drew
  clear hbel
  go_wp2_with fail
  go_region
  all_goals
    clear hc hf hx hy
    go_wp2
    go_ret
    exact ⟨_, _, rfl, hkm, Hne.out, hb2⟩

end Go.Proofs.Ytnjaofkieajnlab

/- The program's data of an object. -/
namespace Go.Proofs.Ytnjaofkieajnlab
open Go.RowKit

/-- How long a slice is. -/
def lenS (v : Value) : Nat := match v with
  | .slice _ n _ => n
  | _ => 0

/-- Some of a row's bytes, as a text. -/
theorem conv_part (B : ByteArray) (g n c base m k c2 : Nat) (w : World) (h : w.ownsRow base 5 1 (.slice (some ⟨g, 0, none⟩) n c) n (bytesV B)) (hm : m + k ≤ B.size) : (convert 55 9 (.slice (some ⟨g, m, none⟩) k c2)).run Try.prog w = .ok (.string (B.extract m (m + k))) w := by
  have hcell := h.cells (g := g) rfl
  have hsz : (B.extract m (m + k)).size = k := by rw [ByteArray.size_extract]; omega
  have hcells : ∀ j, j < k → w.cell? ⟨g, m + j, none⟩ = some (.int .u8 ((numsB (B.extract m (m + k))).getD j 0)) := fun j hj => by
    rw [numsB_getD]
    have h1 := hcell (m + j) _ (bytesV_getElem B (m + j) (by omega))
    rw [Addr.add_mid, Nat.zero_add] at h1
    rw [h1]
    have : byteAt (B.extract m (m + k)) j = byteAt B (m + j) := by
      rw [← byteAt_get _ _ (show j < (B.extract m (m + k)).size by omega), ← byteAt_get _ _ (show m + j < B.size by omega)]
      rw [ByteArray.getElem_extract]
    rw [this]
  have hcv := run_convert_bytes_arg (P := Try.prog) w 55 5 Try.underlying55 Try.underlying5 g m k c2 (numsB (B.extract m (m + k))) (by rw [numsB_length]; exact hsz) hcells 9 Try.underlying9
  rw [strOfNums_numsB] at hcv
  exact hcv

set_option maxRecDepth 100000 in
set_option maxHeartbeats 8000000 in
theorem pdata_any (K z N : Nat) (o : ByteArray) (w : World) (hz : 1 ≤ z ∧ z ≤ 16) (hK : 1 ≤ K ∧ K ≤ 20) (hN : N = K * z) (ho : o.size + 2 ≤ N) :
    Calls Try.prog 48 #[.int .i64 (K : Int), .int .i64 (z : Int), .string o] w fun e w' => ∃ v, e = .returned v ∧ w'.ownsRow w.heap.size 9 1 v K (textV (cutTo (objT N o) z K)) ∧ Below w.heap.size w w' := by
  have hN2 : N ≤ 320 := by rw [hN]; exact Nat.le_trans (Nat.mul_le_mul hK.2 hz.2) (by decide)
  have hmul : (K : Int) * (z : Int) = (N : Int) := by rw [hN]; simp
  have hm1 : 0 ≤ (K : Int) * (z : Int) := by rw [hmul]; omega
  have hm2 : (K : Int) * (z : Int) ≤ 320 := by rw [hmul]; omega
  obtain ⟨i0, hi0, hz0, hz1, hz2⟩ := info_parts Try.infoByte
  obtain ⟨j0, gi, gz0, gz1, gz2⟩ := info_parts Try.infoText
  have hmk : ∀ w, (Instr.makeSlice 55 (.int .i64 0) (.int .i64 ((K : Int) * (z : Int)))).run Try.prog w = .ok (.slice (some ⟨w.heap.size, 0, none⟩) 0 N) (w.alloc (.cells (madeCells #[.int .u8 0] N) 5)) := fun w => by
    rw [hmul]; exact run_make_byteRow N (by omega) w
  have hmk2 := run_make_texts K (by omega)
  have hob : objT N o = lenB o.size ++ o ++ zeroB (N - (2 + o.size)) := rfl
  have hos : (objT N o).size = N := objT_size N o ho
  have n1 : bytesV (lenB o.size) = [.int .u8 ((o.size % 256 : Nat) : Int), .int .u8 ((o.size / 256 : Nat) : Int)] := by
    unfold bytesV; rw [numsB_len o.size (by omega)]; rfl
  have hls : (lenB o.size).size = 2 := rfl
  generalize lenB o.size = lb at *
  generalize objT N o = T at *
  have HO := hide hob
  have HM := hide hmul
  have HN := hide hN
  have N1 := hide n1
  clear hob hmul hN n1
  go_enter Try.func48, Try.ntmps48
  go_upto_region 2 with fail
  have hbA : Below w.heap.size w (w.alloc (.cells (madeCells #[.int .u8 0] N) 5)) := (Below.refl _ _).alloc (Nat.le_refl _) _
  have hown : (w.alloc (.cells (madeCells #[.int .u8 0] N) 5)).ownsRow w.heap.size 5 1 (.slice (some ⟨w.heap.size, 0, none⟩) 0 N) 0 [] := World.ownsRow_made (base := w.heap.size) (e := 5) (size := 1) w (madeCells #[.int .u8 0] N) N (Nat.le_refl _) (by unfold maxLen; omega) (by simp [size_madeCells])
  have hsz : w.heap.size ≤ (w.alloc (.cells (madeCells #[.int .u8 0] N) 5)).heap.size := by simp
  generalize w.alloc (.cells (madeCells #[.int .u8 0] N) 5) = W at *
  clear hmk
  go_wp2_with (at_builtin; refine wpList_append_lies _ rfl (.tmp 15) (.tmp 24) 55 rfl w.heap.size 5 i0 (.int .u8 0) 1 1 Try.underlying55 hi0 hz0 hz1 hz2 rfl (by decide) _ _ _ rfl (hown.alloc _) ⟨W.heap.size, 0, none⟩ 2 2 (bytesV lb) rfl (by rw [bytesV_len, hls]) (byte_news W lb _ (by rw [N1.out]; rfl)) (bytesV_one lb) (by decide) (by unfold maxLen; omega) (by omega) (by simp; omega) (W.heap.size + 1) (by simp) ?_)
  intro g1 k1 W1 hown1 hgr1 hat1 hlt1
  have hb1 := below_own hown hgr1 hsz
  have hbA1 := hbA.trans hb1
  have hown1' : W1.ownsRow w.heap.size 5 1 (.slice (some ⟨g1, 0, none⟩) 2 k1) 2 (bytesV lb) := hown1
  clear hown hgr1 hat1 hlt1 hbA hb1 hown1 hsz N1
  have hsz1 := hbA1.size
  go_wp2_with (at_builtin; refine Go.Lib.wpList_append_own_string _ rfl (.tmp 26) (.tmp 27) 55 9 rfl w.heap.size 5 i0 Try.underlying55 Try.underlying9 hi0 hz0 hz1 hz2 _ _ _ rfl hown1' o rfl (by unfold maxLen; omega) (by omega) (by omega) ?_)
  intro v2 W2 hown2 hgr2 hn2
  have hb2 := below_ownS hown1' hgr2 hsz1
  have hbA2 := hbA1.trans hb2
  rw [bytesV_str, ← bytesV_app] at hown2
  obtain ⟨g2, k2, rfl, hg2, hgl2⟩ := hown2.form (by omega)
  clear hown1' hgr2 hn2 hbA1 hb2 hsz1
  have hts : (lb ++ o).size = 2 + o.size := by rw [ByteArray.size_append, hls]
  generalize lb ++ o = t0 at *
  go_wp2_with fail
  go_loopw [7] (fun tv wr => ∃ (k g c : Nat), 2 + o.size + k ≤ N ∧ tv = .slice (some ⟨g, 0, none⟩) (2 + o.size + k) c ∧ wr.ownsRow w.heap.size 5 1 tv (2 + o.size + k) (bytesV (t0 ++ zeroB k)) ∧ Below w.heap.size w wr) (fun tv _ => N - lenS tv)
  case atStart => exact ⟨0, g2, k2, by omega, rfl, by rw [show zeroB 0 = ByteArray.empty from rfl, ByteArray.append_empty]; exact hown2, hbA2⟩
  case round =>
    clear hown2 hbA2 hg2 hgl2
    obtain ⟨k, g, c, hk1, rfl, hown, hbw⟩ := hrel
    have hsw := hbw.size
    by_cases hlt : 2 + o.size + k < N
    · have hc1 : ((2 : Int) + (o.size : Int) + (k : Int)) < (K : Int) * (z : Int) := by rw [HM.out]; omega
      have hps := pad_succ t0 k
      have Hps := hide hps
      have n5 : bytesV ⟨#[0]⟩ = [.int .u8 0] := rfl
      have s5 : (ByteArray.mk #[0]).size = 1 := rfl
      have N5 := hide n5
      clear hps n5
      generalize ByteArray.mk #[0] = B5 at *
      go_wp2_with (at_builtin; refine wpList_append_lies _ rfl (.tmp 35) (.tmp 36) 55 rfl w.heap.size 5 i0 (.int .u8 0) 1 1 Try.underlying55 hi0 hz0 hz1 hz2 rfl (by decide) _ _ _ rfl (hown.alloc _) ⟨wr.heap.size, 0, none⟩ 1 1 (bytesV B5) rfl (by rw [bytesV_len, s5]) (byte_news wr B5 _ (by rw [N5.out])) (bytesV_one B5) (by decide) (by unfold maxLen; omega) (by omega) (by simp; omega) (wr.heap.size + 1) (by simp) ?_)
      intro g3 k3 W3 hown3 hgr3 hat3 hlt3
      have hb3 := below_own hown hgr3 hsw
      have hbw3 := hbw.trans hb3
      rw [← bytesV_app, Hps.out] at hown3
      clear hgr3 hat3 hlt3 hb3 hbw hown
      go_wp2_with fail
      go_roundw
      case rel => exact ⟨k + 1, g3, k3, by omega, rfl, hown3, hbw3⟩
      case measure => simp only [lenS]; omega
    · have hc1 : ¬ ((2 : Int) + (o.size : Int) + (k : Int)) < (K : Int) * (z : Int) := by rw [HM.out]; omega
      have hkN : k = N - (2 + o.size) := by omega
      have hT : t0 ++ zeroB k = T := by rw [hkN]; exact HO.out.symm
      rw [hT] at hown
      have hlN : 2 + o.size + k = N := by omega
      rw [hlN] at hown ⊢
      clear HO hT hkN hlt hlN hk1 hc1
      have hc1 : ¬ (N : Int) < (K : Int) * (z : Int) := by rw [HM.out]; omega
      have hcap : N ≤ c := by
        rcases hown.2 with ⟨h, _⟩ | ⟨g', c', cur, h, _, _, hc, _⟩
        · cases h
        · injection h with h1 h2 h3; omega
      have hgw : g < wr.heap.size := (hown.lt g rfl).2
      go_upto_region 7 with fail
      have hst : (wr.alloc (.cells (madeCells #[.string ByteArray.empty] K) 9)).ownsRow wr.heap.size 9 1 (.slice (some ⟨wr.heap.size, 0, none⟩) 0 K) 0 (textV (cutTo T z 0)) := World.ownsRow_made (base := wr.heap.size) (e := 9) (size := 1) wr (madeCells #[.string ByteArray.empty] K) K (Nat.le_refl _) (by unfold maxLen; omega) (by simp [size_madeCells])
      have hbS : Below wr.heap.size wr (wr.alloc (.cells (madeCells #[.string ByteArray.empty] K) 9)) := (Below.refl _ _).alloc (Nat.le_refl _) _
      generalize wr.alloc (.cells (madeCells #[.string ByteArray.empty] K) 9) = W5 at *
      clear hmk2
      obtain ⟨V, hV⟩ : ∃ V, V = wr := ⟨_, rfl⟩
      rw [← hV] at hown hst hbS hbw hsw hgw
      rw [← hV]
      clear hV
      go_wp2_with fail
      go_loopw [8, 9] (fun dv iv wi => ∃ j : Nat, j ≤ K ∧ iv = .int .i64 (j : Int) ∧ wi.ownsRow V.heap.size 9 1 dv j (textV (cutTo T z j)) ∧ Below V.heap.size V wi) (fun _ iv _ => K - (intOf iv).toNat)
      case atStart => exact ⟨0, Nat.zero_le _, rfl, hst, hbS⟩
      case round =>
        clear hst hbS
        obtain ⟨j, hj, rfl, hod, hbi⟩ := hrel
        by_cases hjK : j < K
        · have hjm : (j : Int) * (z : Int) = ((j * z : Nat) : Int) := by simp
          have hmz : j * z + z ≤ N := by rw [HN.out, ← Nat.succ_mul]; exact Nat.mul_le_mul_right z hjK
          have hcut : cutTo T z (j + 1) = cutTo T z j ++ [T.extract (j * z) (j * z + z)] := rfl
          have Hcut := hide hcut
          have j1 : 0 ≤ (j : Int) * (z : Int) := by rw [hjm]; omega
          have j2 : (j : Int) * (z : Int) ≤ 320 := by rw [hjm]; omega
          have hown2 := owns_of_block (w' := wr) hown (fun k hk => hbi.block k (hown.lt k hk).2)
          have hcv := conv_part T g N c w.heap.size (j * z) z (c - j * z) wr hown2 (by rw [hos]; exact hmz)
          have HJ := hide hjm
          clear hcut hjm
          go_upto_region 11 with fail
          rw [HJ.out]
          clear j1 j2 HJ
          generalize j * z = m at *
          have hsi := Nat.le_trans (Nat.le_refl _) hbi.size
          go_wp2_with (at_builtin; refine wpList_append_lies _ rfl (.tmp 48) (.tmp 56) 27 rfl V.heap.size 9 j0 (.string ByteArray.empty) 1 16 Try.underlying27 gi gz0 gz1 gz2 rfl (by decide) _ _ _ rfl (hod.alloc _) ⟨wr.heap.size, 0, none⟩ 1 1 [.string (T.extract m (m + z))] rfl rfl (one_news _ _ _) (one_oneCell rfl) (by decide) (by unfold maxLen; omega) (by omega) (by simp; omega) (wr.heap.size + 1) (by simp) ?_)
          intro g6 k6 W6 hown6 hgr6 hat6 hlt6
          have hb6 := below_own hod hgr6 hsi
          have hbi6 := hbi.trans hb6
          clear hgr6 hat6 hlt6 hb6 hbi hod hown2 hcv
          go_wp2_with fail
          go_roundw
          case rel => exact ⟨j + 1, by omega, by go_num, by rw [Hcut.out, textV_append]; exact hown6, hbi6⟩
          case measure => simp [intOf]; omega
        · have hjj : j = K := by omega
          subst hjj
          have hff := hbw.trans (hbi.mono hsw)
          have hof := owns_low hod hsw
          go_wp2_with fail
          go_ret
          exact ⟨_, rfl, hof, hff⟩

end Go.Proofs.Ytnjaofkieajnlab

/- The program's Room. -/
namespace Go.Proofs.Ytnjaofkieajnlab
open Go.RowKit

set_option maxRecDepth 100000 in
set_option maxHeartbeats 4000000 in
theorem room_any (K z : Nat) (w : World) (hK : K ≤ 20) (hz : z ≤ 16) :
    Calls Try.prog 47 #[.int .i64 (K : Int), .int .i64 (z : Int)] w fun e w' => e = .returned (.int .i64 ((K : Int) * (z : Int) - 2)) ∧ w' = w := by
  have hN2 : K * z ≤ 320 := Nat.le_trans (Nat.mul_le_mul hK hz) (by decide)
  have hmul : (K : Int) * (z : Int) = ((K * z : Nat) : Int) := by simp
  have hm1 : 0 ≤ (K : Int) * (z : Int) := by rw [hmul]; omega
  have hm2 : (K : Int) * (z : Int) ≤ 320 := by rw [hmul]; omega
  clear hmul hN2
  go_enter Try.func47, Try.ntmps47
  go_wp2_with fail
  go_ret
  exact ⟨rfl, rfl⟩

end Go.Proofs.Ytnjaofkieajnlab

/- The document's own Send, where it refuses. -/
namespace Go.Proofs.Ytnjaofkieajnlab
open Go.RowKit

end Go.Proofs.Ytnjaofkieajnlab

/- The program's Send. -/
namespace Go.Proofs.Ytnjaofkieajnlab
open Go.RowKit

theorem maybe_below (K M O S : Int) (w : World) :
    Calls Try.prog 46 #[specV K M O S] w fun e w' => e = .returned (.bool (mayB K M O S)) ∧ Below w.heap.size w w' :=
  (maybe_any K M O S w).mono fun _ _ ⟨he, hw⟩ => ⟨he, by rw [hw]; exact (Below.refl _ _).alloc (Nat.le_refl _) _⟩

theorem objWord_split (K M O S z : Nat) (o : ByteArray) : cutTo (objT (K * z) o) z K ++ sparesOf K M O S (cutTo (objT (K * z) o) z K) z = objWord K M O S z o :=
  (knownTo_split _ _ _ _).symm

set_option maxRecDepth 100000 in
set_option maxHeartbeats 8000000 in
theorem osend_ok (K M O S z : Nat) (o : ByteArray) (w : World) (hK : 1 ≤ K ∧ K ≤ 20) (hM : 1 ≤ M ∧ M ≤ 20) (hO : 1 ≤ O ∧ O ≤ M) (hS : S ≤ 65535) (hz : 1 ≤ z ∧ z ≤ 16) (ho : o.size + 2 ≤ K * z) :
    Calls Try.prog 33 #[specV K M O S, .int .i64 (z : Int), .string o] w fun e w' => ∃ v, e = .returned (.tuple #[v, .int .i64 0]) ∧ w'.ownsRow w.heap.size 9 1 v (K + M) (textV (packTo K M O S z (objWord K M O S z o) (K + M))) ∧ Below w.heap.size w w' := by
  have hN2 : K * z ≤ 320 := Nat.le_trans (Nat.mul_le_mul hK.2 hz.2) (by decide)
  have hmul : (K : Int) * (z : Int) = ((K * z : Nat) : Int) := by simp
  have hm1 : 0 ≤ (K : Int) * (z : Int) := by rw [hmul]; omega
  have hm2 : (K : Int) * (z : Int) ≤ 320 := by rw [hmul]; omega
  have hc1 : ¬ (K : Int) * (z : Int) - 2 < (o.size : Int) := by rw [hmul]; omega
  have hma := fun W => maybe_below K M O S W
  have hmay : mayB K M O S = true := by simp [mayB]; omega
  rw [hmay] at hma
  have hds := cutTo_size (objT (K * z) o) z K (by rw [objT_size _ _ ho]; exact Nat.le_refl _)
  have hdl := cutTo_length (objT (K * z) o) z K
  obtain ⟨hsh, h0s⟩ := shape_made hdl (by omega) hds hz
  have hda := fun W => pdata_any K z (K * z) o W hz hK rfl ho
  have hwo := fun v W h => wspare_ok K M O S v (cutTo (objT (K * z) o) z K) W hK hM hO hS hsh h
  rw [h0s] at hwo
  have hPl : (objWord K M O S z o).length = K + M := by unfold objWord; rw [knownTo_length, hdl]
  have hPs : ∀ x ∈ objWord K M O S z o, x.size = z := knownTo_size hds M
  have hPe := objWord_split K M O S z o
  have hsl := sparesOf_length K M O S (cutTo (objT (K * z) o) z K) z
  clear h0s hsh hmul hds hmay
  generalize objWord K M O S z o = P at *
  generalize sparesOf K M O S (cutTo (objT (K * z) o) z K) z = Sp at *
  generalize cutTo (objT (K * z) o) z K = D at *
  have HPe := hide hPe
  clear hPe
  obtain ⟨j0, gi, gz0, gz1, gz2⟩ := info_parts Try.infoText
  have hsp : (w.alloc (specB K M O S)).heap[w.heap.size]? = some (specB K M O S) := heap_alloc_new w _
  have hbA : Below w.heap.size w (w.alloc (specB K M O S)) := (Below.refl _ _).alloc (Nat.le_refl _) _
  have hmk : ∀ w, (Instr.makeSlice 27 (.int .i64 0) (.int .i64 ((K : Int) + (M : Int)))).run Try.prog w = .ok (.slice (some ⟨w.heap.size, 0, none⟩) 0 (K + M)) (w.alloc (.cells (madeCells #[.string ByteArray.empty] (K + M)) 9)) := fun w => by
    have h := run_make_texts (K + M) (by omega) w
    rw [show ((K + M : Nat) : Int) = (K : Int) + (M : Int) from by omega] at h
    exact h
  go_enter Try.func33, Try.ntmps33
  go_wp2_with fail
  refine (hma _).mono ?_
  rintro e w1 ⟨rfl, hb1⟩
  have hs1 := block_on hsp hb1
  have hbw1 := hbA.trans (hb1.mono hbA.size)
  have hl1 := (Array.getElem?_eq_some_iff.1 hs1).1
  clear hsp hbA hb1 hma
  obtain ⟨c0, c1, c2, c3⟩ := spec_cells hs1
  have z1 : ¬ (z : Int) < 1 := by omega
  have z2 : ¬ (16 : Int) < (z : Int) := by omega
  go_wp2_with fail
  refine (room_any K z _ hK.2 hz.2).mono ?_
  rintro e w1r ⟨rfl, hr⟩
  obtain rfl := hr.symm
  go_wp2_with fail
  refine (hda _).mono ?_
  rintro e w2 ⟨v2, rfl, hown2, hb2⟩
  have hs2 := block_on hs1 hb2
  have hbw2 := hbw1.trans (hb2.mono hbw1.size)
  clear c0 c1 c2 c3 hs1 hda
  obtain ⟨c0, c1, c2, c3⟩ := spec_cells hs2
  go_wp2_with fail
  refine (hwo _ _ (owns_texts hown2 hdl.symm)).mono ?_
  rintro e w3 ⟨v3, rfl, hown3, hb3⟩
  have hs3 := block_on hs2 hb3
  have hbw3 := hbw2.trans (hb3.mono hbw2.size)
  have hownD := owns_below hown2 hb3
  clear c0 c1 c2 c3 hs2 hwo hown2
  obtain ⟨c0, c1, c2, c3⟩ := spec_cells hs3
  obtain ⟨gD, kD, rfl, hgD, hgDl⟩ := hownD.form (by omega)
  obtain ⟨gS, kS, rfl, hgS, hgSl⟩ := hown3.form (by omega)
  have hnews := hown3.cells (g := gS) rfl
  have HNw := hide hnews
  clear hnews
  have hwb := hbw1.size
  have hwb3 : w1.heap.size ≤ w3.heap.size := Nat.le_trans hb2.size hb3.size
  clear hb2 hb3 hbw2
  go_wp2_with (at_builtin; refine wpList_append_lies _ rfl (.tmp 45) (.tmp 46) 27 rfl w1.heap.size 9 j0 (.string ByteArray.empty) 1 16 Try.underlying27 gi gz0 gz1 gz2 rfl (by decide) _ _ _ rfl hownD ⟨gS, 0, none⟩ M kS (textV Sp) rfl (by rw [textV_length]; omega) HNw.out (textV_one Sp) (by omega) (by unfold maxLen; omega) (by omega) (by omega) w3.heap.size rfl ?_)
  intro g4 k4 w4 hown4 hgr4 hat4 hlt4
  have hb4 : Below w1.heap.size w3 w4 := below_ownS hownD hgr4 hwb3
  have hs4 := block_low hs3 hb4 hl1
  have hbw4 : Below w.heap.size w w4 := hbw3.trans (hb4.mono hwb)
  have hownP : w4.ownsRow w1.heap.size 9 1 (.slice (some ⟨g4, 0, none⟩) (K + M) k4) (K + M) (textV P) := by rw [← HPe.out, textV_append]; exact hown4
  clear hgr4 hat4 hown4 hownD hown3 HNw HPe c0 c1 c2 c3 hs3 hbw3 hb4 hwb3 hgS hgSl hgD hgDl
  have htx := owns_texts hownP hPl.symm
  have hTc : ∀ k, k < K + M → w4.cell? ⟨g4, k, none⟩ = some (.string (P.getD k ByteArray.empty)) := by
    obtain ⟨ao, cap', hv', _, hT⟩ := htx
    injection hv' with hv1 hv2 hv3
    intro k hk
    obtain ⟨q, o1, hq1, hq2, hq3⟩ := hT k (by omega)
    rw [hq1] at hv1
    injection hv1 with hv1
    injection hv1 with hb1 ho1
    subst hb1 ho1
    rw [Nat.zero_add] at hq3
    exact hq3
  have HT := hide hTc
  clear hTc htx hownP
  have hw4 := hbw4.size
  go_upto_region 13 with fail
  have hst : (w4.alloc (.cells (madeCells #[.string ByteArray.empty] (K + M)) 9)).ownsRow w4.heap.size 9 1 (.slice (some ⟨w4.heap.size, 0, none⟩) 0 (K + M)) 0 (textV (packTo K M O S z P 0)) := World.ownsRow_made (base := w4.heap.size) (e := 9) (size := 1) w4 (madeCells #[.string ByteArray.empty] (K + M)) (K + M) (Nat.le_refl _) (by unfold maxLen; omega) (by simp [size_madeCells])
  have hbS : Below w4.heap.size w4 (w4.alloc (.cells (madeCells #[.string ByteArray.empty] (K + M)) 9)) := (Below.refl _ _).alloc (Nat.le_refl _) _
  generalize w4.alloc (.cells (madeCells #[.string ByteArray.empty] (K + M)) 9) = W5 at *
  clear hmk
  go_wp2_with fail
  go_loopw [11, 53] (fun ov t wr => ∃ i : Nat, i ≤ K + M ∧ t = .int .i64 i ∧ wr.ownsRow w4.heap.size 9 1 ov i (textV (packTo K M O S z P i)) ∧ Below w4.heap.size w4 wr) (fun _ t _ => K + M - (intOf t).toNat)
  case atStart => exact ⟨0, Nat.zero_le _, rfl, hst, hbS⟩
  case round =>
    clear hst hbS
    obtain ⟨i, hiM, rfl, hown, hbr⟩ := hrel
    have hwr := hbr.size
    by_cases hlt : i < K + M
    · have hcl : wr.cell? ⟨g4, i, none⟩ = some (.string (P.getD i ByteArray.empty)) := by
        rw [← HT.out i hlt]; exact hbr.cell hlt4
      have hpm : P.getD i ByteArray.empty ∈ P := by
        rw [List.getD_eq_getElem?_getD, List.getElem?_eq_getElem (by omega)]; exact List.getElem_mem _
      have hps := hPs _ hpm
      have hpk : packTo K M O S z P (i + 1) = packTo K M O S z P i ++ [packB K M O S z i (P.getD i ByteArray.empty)] := rfl
      have Hpk := hide hpk
      clear hpk hpm
      generalize P.getD i ByteArray.empty = p at *
      obtain ⟨c0, c1, c2, c3⟩ := spec_cells (block_on hs4 hbr)
      go_wp2_with fail
      refine (ptext_any K M O S z i p wr hK.2 hM.2 (by omega) hS (by omega) (by omega) (by omega)).mono ?_
      rintro e w6 ⟨rfl, hb6⟩
      have hown6 := owns_below hown hb6
      have hbr6 := hbr.trans (hb6.mono hbr.size)
      have hw6 := hbr6.size
      clear hb6 hown hbr c0 c1 c2 c3 hcl
      generalize packB K M O S z i p = pk at *
      go_wp2_with (at_builtin; refine wpList_append_lies _ rfl (.tmp 64) (.tmp 66) 27 rfl w4.heap.size 9 j0 (.string ByteArray.empty) 1 16 Try.underlying27 gi gz0 gz1 gz2 rfl (by decide) _ _ _ rfl (hown6.alloc _) ⟨w6.heap.size, 0, none⟩ 1 1 [.string pk] rfl rfl (one_news _ _ _) (one_oneCell rfl) (by decide) (by unfold maxLen; omega) (by omega) (by simp; omega) (w6.heap.size + 1) (by simp) ?_)
      intro g7 cap7 w7 hown7 hgr7 hat7 hlt7
      have hb7 : Below w4.heap.size w4 w7 := hbr6.grown (grownBy_of_alloc hgr7) hbr6.size (fun k e => (hown6.lt k e).1)
      clear hown6 hbr6 hgr7 hat7
      go_wp2_with fail
      go_roundw
      case rel => exact ⟨i + 1, by omega, by go_num, by rw [Hpk.out, textV_append]; exact hown7, hb7⟩
      case measure => simp [intOf]; omega
    · have hii : i = K + M := by omega
      subst hii
      have hff := hbw4.trans (hbr.mono hw4)
      have hof := owns_low hown hw4
      have hcf : ¬ ((K + M : Nat) : Int) < (K : Int) + (M : Int) := by omega
      go_wp2_with fail
      go_ret2
      exact ⟨_, rfl, hof, hff⟩

set_option maxRecDepth 100000 in
set_option maxHeartbeats 4000000 in
theorem osend_bad (K M O S z : Int) (o : ByteArray) (w : World) (hmay : mayB K M O S = false) :
    Calls Try.prog 33 #[specV K M O S, .int .i64 z, .string o] w fun e w' => e = .returned (.tuple #[.slice none 0 0, .int .i64 1]) ∧ Below w.heap.size w w' := by
  have hma := fun W => maybe_below K M O S W
  rw [hmay] at hma
  have hbA : Below w.heap.size w (w.alloc (.cells #[.int .i64 K, .int .i64 M, .int .i64 O, .int .i64 S] 24)) := (Below.refl _ _).alloc (Nat.le_refl _) _
  go_enter Try.func33, Try.ntmps33
  go_wp2_with fail
  refine (hma _).mono ?_
  rintro e w1 ⟨rfl, hb1⟩
  have hbw1 := hbA.trans (hb1.mono hbA.size)
  go_wp2_with fail
  go_ret2
  exact ⟨rfl, hbw1⟩

set_option maxRecDepth 100000 in
set_option maxHeartbeats 4000000 in
theorem osend_arg (K M O S z : Int) (o : ByteArray) (w : World) (hmay : mayB K M O S = true) (hz : z < 1 ∨ (1 ≤ z ∧ 16 < z)) :
    Calls Try.prog 33 #[specV K M O S, .int .i64 z, .string o] w fun e w' => e = .returned (.tuple #[.slice none 0 0, .int .i64 2]) ∧ Below w.heap.size w w' := by
  have hma := fun W => maybe_below K M O S W
  rw [hmay] at hma
  have hbA : Below w.heap.size w (w.alloc (.cells #[.int .i64 K, .int .i64 M, .int .i64 O, .int .i64 S] 24)) := (Below.refl _ _).alloc (Nat.le_refl _) _
  rcases hz with hz | hz
  all_goals
    go_enter Try.func33, Try.ntmps33
    go_wp2_with fail
    refine (hma _).mono ?_
    rintro e w1 ⟨rfl, hb1⟩
    have hbw1 := hbA.trans (hb1.mono hbA.size)
    go_wp2_with fail
    go_ret2
    exact ⟨rfl, hbw1⟩

set_option maxRecDepth 100000 in
set_option maxHeartbeats 4000000 in
theorem osend_shape (K M O S z : Nat) (o : ByteArray) (w : World) (hmay : mayB K M O S = true) (hz : 1 ≤ z ∧ z ≤ 16) (ho : K * z < o.size + 2) :
    Calls Try.prog 33 #[specV K M O S, .int .i64 (z : Int), .string o] w fun e w' => e = .returned (.tuple #[.slice none 0 0, .int .i64 3]) ∧ Below w.heap.size w w' := by
  have hKK := mayB_true hmay
  have hK : 1 ≤ K ∧ K ≤ 20 := by omega
  clear hKK
  have hN2 : K * z ≤ 320 := Nat.le_trans (Nat.mul_le_mul hK.2 hz.2) (by decide)
  have hmul : (K : Int) * (z : Int) = ((K * z : Nat) : Int) := by simp
  have hm1 : 0 ≤ (K : Int) * (z : Int) := by rw [hmul]; omega
  have hm2 : (K : Int) * (z : Int) ≤ 320 := by rw [hmul]; omega
  have hc1 : (K : Int) * (z : Int) - 2 < (o.size : Int) := by rw [hmul]; omega
  clear hmul
  have hma := fun W => maybe_below K M O S W
  rw [hmay] at hma
  have hsp : (w.alloc (specB K M O S)).heap[w.heap.size]? = some (specB K M O S) := heap_alloc_new w _
  have hbA : Below w.heap.size w (w.alloc (specB K M O S)) := (Below.refl _ _).alloc (Nat.le_refl _) _
  go_enter Try.func33, Try.ntmps33
  go_wp2_with fail
  refine (hma _).mono ?_
  rintro e w1 ⟨rfl, hb1⟩
  have hs1 := block_on hsp hb1
  have hbw1 := hbA.trans (hb1.mono hbA.size)
  clear hsp hbA hb1 hma
  obtain ⟨c0, c1, c2, c3⟩ := spec_cells hs1
  have z1 : ¬ (z : Int) < 1 := by omega
  have z2 : ¬ (16 : Int) < (z : Int) := by omega
  go_wp2_with fail
  refine (room_any K z _ hK.2 hz.2).mono ?_
  rintro e w1r ⟨rfl, hr⟩
  obtain rfl := hr.symm
  go_wp2_with fail
  go_ret2
  exact ⟨rfl, hbw1⟩

set_option maxRecDepth 100000 in
set_option maxHeartbeats 4000000 in
theorem send_ok (K M O S z : Nat) (o : ByteArray) (w : World) (hK : 1 ≤ K ∧ K ≤ 20) (hM : 1 ≤ M ∧ M ≤ 20) (hO : 1 ≤ O ∧ O ≤ M) (hS : S ≤ 65535) (hz : 1 ≤ z ∧ z ≤ 16) (ho : o.size + 2 ≤ K * z) :
    Calls Try.prog 18 #[specV K M O S, .int .i64 (z : Int), .string o] w fun e w' => ∃ v, e = .returned (.tuple #[v, .int .i64 0]) ∧ w'.ownsRow w.heap.size 9 1 v (K + M) (textV (packTo K M O S z (objWord K M O S z o) (K + M))) ∧ Below w.heap.size w w' := by
  have hse := fun W => osend_ok K M O S z o W hK hM hO hS hz ho
  generalize packTo K M O S z (objWord K M O S z o) (K + M) = L at *
  have hbA : Below w.heap.size w (w.alloc (specB K M O S)) := (Below.refl _ _).alloc (Nat.le_refl _) _
  go_enter Try.func18, Try.ntmps18
  go_wp2_with fail
  refine (hse _).mono ?_
  rintro e w1 ⟨v, rfl, hown, hb1⟩
  have hown1 := owns_low hown hbA.size
  have hbw1 := hbA.trans (hb1.mono hbA.size)
  clear hown hse hbA hb1
  go_wp2_with fail
  go_ret2
  exact ⟨_, rfl, hown1, hbw1⟩

set_option maxRecDepth 100000 in
set_option maxHeartbeats 4000000 in
theorem send_err (K M O S z n : Int) (o : ByteArray) (w : World) (hse : ∀ W, Calls Try.prog 33 #[specV K M O S, .int .i64 z, .string o] W fun e w' => e = .returned (.tuple #[.slice none 0 0, .int .i64 n]) ∧ Below W.heap.size W w') :
    Calls Try.prog 18 #[specV K M O S, .int .i64 z, .string o] w fun e w' => e = .returned (.tuple #[.slice none 0 0, .int .i64 n]) ∧ Below w.heap.size w w' := by
  have hbA : Below w.heap.size w (w.alloc (.cells #[.int .i64 K, .int .i64 M, .int .i64 O, .int .i64 S] 24)) := (Below.refl _ _).alloc (Nat.le_refl _) _
  go_enter Try.func18, Try.ntmps18
  go_wp2_with fail
  refine (hse _).mono ?_
  rintro e w1 ⟨rfl, hb1⟩
  have hbw1 := hbA.trans (hb1.mono hbA.size)
  clear hse hbA hb1
  go_wp2_with fail
  go_ret2
  exact ⟨rfl, hbw1⟩

end Go.Proofs.Ytnjaofkieajnlab
