/- Texts of the proof, part 15. -/
import Derived.Test.YtnjaofkieajnlabPostedG13
import Derived.Test.YtnjaofkieajnlabPostedG3
import Derived.Test.YtnjaofkieajnlabPostedG7

/- An object's packets, heard: plain mathematics. -/
namespace Go.Proofs.Ytnjaofkieajnlab

theorem mayB_of {K M O S z : Nat} (h : SpecOk K M O S z) : mayB K M O S = true := by
  obtain ⟨hK, hM, hO, hS, hz⟩ := h
  simp [mayB]
  omega

/-- The first bytes of a packet. -/
theorem packB_byte (K M O S z i : Nat) (q : ByteArray) (j : Nat) (hj : j < 8) : byteAt (packB K M O S z i q) j = byteAt (ByteArray.mk #[82] ++ headB K M O S z i) j := by
  unfold packB
  rw [byteAt_left _ _ _ (by rw [packT_size]; omega)]
  unfold packT
  rw [byteAt_left _ _ _ (by show j < 8; exact hj)]

theorem u8_nat (n : Nat) (h : n ≤ 255) : (UInt8.ofNat n).toNat = n := by rw [UInt8.toNat_ofNat']; omega

structure IsPack (K M O S z i : Nat) (q p : ByteArray) : Prop where
  ok : PacketOk p
  k : rK p = K
  m : rM p = M
  o : rO p = O
  s : rS p = S
  z : rZ p = z
  i : rI p = i
  q : rQ p = q

theorem packB_is {K M O S z i : Nat} {q : ByteArray} (hs : SpecOk K M O S z) (hi : i < K + M) (hq : q.size = z) : IsPack K M O S z i q (packB K M O S z i q) := by
  obtain ⟨hK, hM, hO, hS, hz⟩ := hs
  have e1 : rK (packB K M O S z i q) = K := by unfold rK; rw [packB_byte _ _ _ _ _ _ _ 1 (by omega)]; exact u8_nat K (by omega)
  have e2 : rM (packB K M O S z i q) = M := by unfold rM; rw [packB_byte _ _ _ _ _ _ _ 2 (by omega)]; exact u8_nat M (by omega)
  have e3 : rO (packB K M O S z i q) = O := by unfold rO; rw [packB_byte _ _ _ _ _ _ _ 3 (by omega)]; exact u8_nat O (by omega)
  have e4 : rS (packB K M O S z i q) = S := by
    unfold rS
    rw [packB_byte _ _ _ _ _ _ _ 4 (by omega), packB_byte _ _ _ _ _ _ _ 5 (by omega)]
    show (UInt8.ofNat (S % 256)).toNat + 256 * (UInt8.ofNat (S / 256)).toNat = S
    rw [u8_nat _ (by omega), u8_nat _ (by omega)]
    omega
  have e6 : rZ (packB K M O S z i q) = z := by unfold rZ; rw [packB_byte _ _ _ _ _ _ _ 6 (by omega)]; exact u8_nat z (by omega)
  have e7 : rI (packB K M O S z i q) = i := by unfold rI; rw [packB_byte _ _ _ _ _ _ _ 7 (by omega)]; exact u8_nat i (by omega)
  have hsz := packB_size K M O S z i q
  have eq : rQ (packB K M O S z i q) = q := by
    unfold rQ
    rw [hsz]
    refine bytes_ext (by rw [ByteArray.size_extract, hsz]; omega) (fun j hj => ?_)
    rw [ByteArray.size_extract, hsz] at hj
    rw [byteAt_extract _ _ _ _ (by rw [hsz]; omega) (by omega)]
    unfold packB
    rw [byteAt_left _ _ _ (by rw [packT_size]; omega)]
    unfold packT
    rw [byteAt_right _ _ _ (by show 8 ≤ 8 + j; omega) (by show 8 + j < 8 + q.size; omega)]
    show byteAt q (8 + j - 8) = _
    rw [Nat.add_sub_cancel_left]
  have hok : PacketOk (packB K M O S z i q) := by
    refine (readsOk_iff _ (by rw [hsz]; omega)).1 ?_
    rw [e1, e2, e3, e4, e6, e7, eq]
    exact ⟨mayB_of ⟨hK, hM, hO, hS, hz⟩, hi, hq, rfl⟩
  exact ⟨hok, e1, e2, e3, e4, e6, e7, eq⟩

theorem addTo_set (p : ByteArray) (m : Nat) (x : UInt8) (hm : m < p.size) (n : Nat) : addTo (setByte p m x) n = if m < n then addTo p n + (x - byteAt p m) else addTo p n := by
  induction n with
  | zero => rfl
  | succ n ih =>
    show addTo (setByte p m x) n + byteAt (setByte p m x) n = _
    rw [ih, byteAt_setByte p m x hm n]
    have hs : addTo p (n + 1) = addTo p n + byteAt p n := rfl
    by_cases h1 : m < n
    · rw [if_pos h1, if_neg (by omega), if_pos (by omega), hs]
      apply UInt8.toNat_inj.1
      simp only [UInt8.toNat_add]
      omega
    · rw [if_neg h1]
      by_cases h2 : n = m
      · subst h2
        rw [if_pos rfl, if_pos (by omega), hs]
        apply UInt8.toNat_inj.1
        simp only [UInt8.toNat_add, UInt8.toNat_sub]
        have := (byteAt p n).toNat_lt
        have := x.toNat_lt
        omega
      · rw [if_neg h2, if_neg (by omega), hs]

/-- A packet with one byte turned is none. -/
theorem spoilt {p : ByteArray} (h : PacketOk p) {m : Nat} {x : UInt8} (hm : m < p.size) (hx : x ≠ byteAt p m) : ¬ PacketOk (setByte p m x) := by
  intro h2
  obtain ⟨_, _, _, _, _, _, ha⟩ := h
  obtain ⟨_, _, _, _, _, _, hb⟩ := h2
  rw [setByte_size, addTo_set p m x hm, if_pos hm, ha] at hb
  apply hx
  have h3 := congrArg UInt8.toNat hb
  have := (byteAt p m).toNat_lt
  have := x.toNat_lt
  apply UInt8.toNat_inj.1
  simp only [UInt8.toNat_add, UInt8.toNat_sub] at h3
  simp at h3
  omega

/-- What a catcher has taken is the word's. -/
structure CarOk (K M O S z : Nat) (P : List ByteArray) (s : CS) : Prop where
  ok : CSok s
  same : s.tk = true → K = s.K ∧ M = s.M ∧ O = s.O ∧ S = s.S ∧ z = s.z
  wkn : WKn K M O S z P s.kn

theorem CarOk.new (K M O S z : Nat) (P : List ByteArray) : CarOk K M O S z P CS.zero := ⟨CSok.new, fun h => (by cases h), WKn.new K M O S z P⟩

/-- What is told. -/
def toldIn (K M O S : Nat) (s : CS) (i : Nat) : Prop := sp ((KA s.kn).map Prod.fst) (ofs K M O S i)

theorem CarOk.hear {K M O S z : Nat} {P : List ByteArray} {s : CS} (h : CarOk K M O S z P s) (hs : SpecOk K M O S z) (hw : IsWord K M O S z P) {i : Nat} (hi : i < K + M) :
    hearE s (packB K M O S z i (P.getD i ByteArray.empty)) = 0 ∧ CarOk K M O S z P (hearS s (packB K M O S z i (P.getD i ByteArray.empty))) ∧ (hearS s (packB K M O S z i (P.getD i ByteArray.empty))).tk = true ∧ toldIn K M O S (hearS s (packB K M O S z i (P.getD i ByteArray.empty))) i ∧ (∀ j, toldIn K M O S s j → toldIn K M O S (hearS s (packB K M O S z i (P.getD i ByteArray.empty))) j) := by
  have hsz := hw.at_size hi
  obtain ⟨hp, e1, e2, e3, e4, e5, e6, e7⟩ := packB_is (i := i) (q := P.getD i ByteArray.empty) hs hi hsz
  generalize packB K M O S z i (P.getD i ByteArray.empty) = t at *
  have hL : hearL s t = left s.kn (ofs K M O S i) (P.getD i ByteArray.empty) := by unfold hearL; rw [e1, e2, e3, e4, e6, e7]
  have he : hearE s t = 0 := by
    rw [hearE_put hp (fun hk => by rw [e1, e2, e3, e4, e5]; exact h.same hk), hL, e5]
    unfold putE
    rw [if_neg (fun x => x.2 (h.wkn.nought hw hi x.1))]
  have hS : hearS s t = ⟨true, K, M, O, S, z, putK s.kn (ofs K M O S i) (P.getD i ByteArray.empty), if (hearL s t).1 = 0 then s.ps else s.ps ++ [(rI t, rQ t)]⟩ := by
    unfold hearS
    rw [if_pos he, e1, e2, e3, e4, e5, e6, e7]
  have hok := h.ok.hear t
  refine ⟨he, ⟨hok, fun _ => by rw [hS]; exact ⟨rfl, rfl, rfl, rfl, rfl⟩, by rw [hS]; exact h.wkn.put hw hs.hK.2 hi⟩, by rw [hS], ?_, fun j hj => ?_⟩
  · rw [hS]
    exact (sp_iff _ _).2 ⟨_, putK_has h.wkn.ok hs.hK.2 hsz (ofs_lt K M O S i) (fun h0 => h.wkn.nought hw hi h0)⟩
  · rw [hS]
    obtain ⟨v, hv⟩ := (sp_iff _ _).1 hj
    exact (sp_iff _ _).2 ⟨v, putK_keeps h.wkn.ok hs.hK.2 hsz (ofs_lt K M O S i) hv⟩

theorem CarOk.told {K M O S z : Nat} {P : List ByteArray} {s : CS} (h : CarOk K M O S z P s) (hk : s.tk = true) (j : Nat) : (csG s j).2 = true ↔ toldIn K M O S s j := by
  obtain ⟨e1, e2, e3, e4, e5⟩ := h.same hk
  unfold csG toldIn
  rw [decide_eq_true_iff, ← e1, ← e2, ← e3, ← e4, ← e5]
  exact (left_ok h.wkn.ok (ofs K M O S j) (zeroB z) (zeroB_size z)).zero

theorem CarOk.says {K M O S z : Nat} {P : List ByteArray} {s : CS} (h : CarOk K M O S z P s) (hw : IsWord K M O S z P) (hk : s.tk = true) {j : Nat} (hj : j < K + M) (ht : (csG s j).2 = true) : (csG s j).1 = P.getD j ByteArray.empty := by
  obtain ⟨e1, e2, e3, e4, e5⟩ := h.same hk
  unfold csG at ht ⊢
  rw [decide_eq_true_iff] at ht
  rw [← e1, ← e2, ← e3, ← e4, ← e5] at ht ⊢
  exact h.wkn.get hw hj ht

theorem joinTo_cuts (t : ByteArray) (z n : Nat) (h : n * z ≤ t.size) (F : Nat → ByteArray × Bool) (hF : ∀ j, j < n → (F j).1 = t.extract (j * z) (j * z + z)) : joinTo F n = t.extract 0 (n * z) := by
  induction n with
  | zero => rw [Nat.zero_mul]; simp [joinTo]
  | succ n ih =>
    rw [Nat.succ_mul] at h ⊢
    show joinTo F n ++ (F n).1 = _
    rw [ih (by omega) (fun j hj => hF j (by omega)), hF n (by omega)]
    simp

/-- An object's data are those of this object. -/
theorem objT_obj (N : Nat) (o : ByteArray) (h : o.size + 2 ≤ N) (hN : N ≤ 65000) : objOk (objT N o) = true ∧ objText (objT N o) = o := by
  have hs := objT_size N o h
  have hl2 : (lenB o.size).size = 2 := rfl
  have hlo : (lenB o.size ++ o).size = 2 + o.size := by rw [ByteArray.size_append, hl2]
  have b0 : byteAt (objT N o) 0 = UInt8.ofNat (o.size % 256) := by
    unfold objT
    rw [byteAt_left _ _ _ (by rw [hlo]; omega), byteAt_left _ _ _ (by rw [hl2]; omega)]; rfl
  have b1 : byteAt (objT N o) 1 = UInt8.ofNat (o.size / 256) := by
    unfold objT
    rw [byteAt_left _ _ _ (by rw [hlo]; omega), byteAt_left _ _ _ (by rw [hl2]; omega)]; rfl
  have hL : objLen (objT N o) = o.size := by
    unfold objLen
    rw [b0, b1, u8_nat _ (by omega), u8_nat _ (by omega)]
    omega
  constructor
  · unfold objOk
    rw [hL, hs, if_pos h]
    refine decide_eq_true ?_
    have hz := (zero_iff (objT N o) (2 + o.size) (by rw [hs]; omega)).2 (fun i h1 h2 => by
      unfold objT
      rw [byteAt_right _ _ _ (by rw [hlo]; exact h1) (by rw [hlo, zeroB_size]; rw [hs] at h2; omega), byteAt_zeroB])
    rwa [hs] at hz
  · unfold objText
    rw [hL, hs, if_pos h]
    refine bytes_ext (by rw [ByteArray.size_extract, hs]; omega) (fun i hi => ?_)
    rw [ByteArray.size_extract, hs] at hi
    rw [byteAt_extract _ _ _ _ (by rw [hs]; omega) (by omega)]
    unfold objT
    rw [byteAt_left _ _ _ (by rw [hlo]; omega), byteAt_right _ _ _ (by rw [hl2]; omega) (by rw [hl2]; omega), hl2, Nat.add_sub_cancel_left]

/-- What a catcher gives is the object, or nothing yet. -/
theorem CarOk.obj {K M O S z : Nat} {o : ByteArray} {s : CS} (h : CarOk K M O S z (objWord K M O S z o) s) (hs : SpecOk K M O S z) (ho : o.size + 2 ≤ K * z) : (s.tk = true ∧ csAll s = true ∧ objE s = (o, 0)) ∨ (¬ (s.tk = true ∧ csAll s = true) ∧ objE s = (⟨#[]⟩, 5)) := by
  by_cases hk : s.tk = true ∧ csAll s = true
  · refine Or.inl ⟨hk.1, hk.2, ?_⟩
    have hw := objWord_is (K := K) (M := M) (O := O) (S := S) (z := z) o ho
    have hts := objT_size (K * z) o ho
    obtain ⟨e1, e2, e3, e4, e5⟩ := h.same hk.1
    have hall := (csAll_iff s).1 hk.2
    have hKz : K * z ≤ 320 := Nat.le_trans (Nat.mul_le_mul hs.hK.2 hs.hz.2) (by decide)
    have hT : joinTo (csG s) s.K = objT (K * z) o := by
      rw [← e1] at hall ⊢
      rw [joinTo_cuts (objT (K * z) o) z K (by rw [hts]; exact Nat.le_refl _) (csG s) (fun j hj => by rw [h.says hw hk.1 (by omega) (hall j hj), objWord_data o hj])]
      generalize objT (K * z) o = T at hts ⊢
      rw [← hts]
      simp
    obtain ⟨g1, g2⟩ := objT_obj (K * z) o ho (by omega)
    unfold objE
    rw [if_pos hk, hT, if_pos g1, g2]
  · refine Or.inr ⟨hk, ?_⟩
    unfold objE
    rw [if_neg hk]

/-- Behind all packets of data. -/
theorem CarOk.whole {K M O S z : Nat} {o : ByteArray} {s : CS} (h : CarOk K M O S z (objWord K M O S z o) s) (hs : SpecOk K M O S z) (ho : o.size + 2 ≤ K * z) (hk : s.tk = true) (hall : ∀ j, j < K → toldIn K M O S s j) : objE s = (o, 0) ∧ wantE s = 0 := by
  obtain ⟨e1, e2, e3, e4, e5⟩ := h.same hk
  constructor
  · rcases h.obj hs ho with ⟨_, _, h1⟩ | ⟨h1, _⟩
    · exact h1
    · exact absurd ⟨hk, (csAll_iff s).2 (fun j hj => (h.told hk j).2 (hall j (by rw [e1]; exact hj)))⟩ h1
  · unfold wantE
    rw [if_pos hk, ← e1, open_some h.wkn.ok hs.hK.2 (fun j hj => by have := hall j hj; unfold toldIn at this; rwa [ofs_data K M O S j hj] at this)]
    rfl

end Go.Proofs.Ytnjaofkieajnlab

/- A large object as plain mathematics: its parts, its sheets, the order that is drawn. -/
namespace Go.Proofs.Ytnjaofkieajnlab

/-- How many parts, for parts of n bytes. -/
def partsN (t : ByteArray) (n : Nat) : Nat := if t.size = 0 then 1 else (t.size + n - 1) / n

/-- The part at p. -/
def partT (t : ByteArray) (n p : Nat) : ByteArray := t.extract (p * n) (if t.size < p * n + n then t.size else p * n + n)

/-- A sheet. -/
def sheetB (p c : Nat) (k : ByteArray) : ByteArray := ⟨#[83]⟩ ++ ⟨#[UInt8.ofNat p, UInt8.ofNat c]⟩ ++ k

/-- The sheets of the first packets of a part. -/
def sheetTo (p c : Nat) (L : List ByteArray) : Nat → List ByteArray
  | 0 => []
  | i + 1 => sheetTo p c L i ++ [sheetB p c (L.getD i ByteArray.empty)]

/-- The packets of a part. -/
def partL (K M O S z : Nat) (t : ByteArray) (p : Nat) : List ByteArray := packTo K M O S z (objWord K M O S z (partT t (K * z - 2) p)) (K + M)

/-- The sheets of the first parts. -/
def sheetsTo (K M O S z c : Nat) (t : ByteArray) : Nat → List ByteArray
  | 0 => []
  | p + 1 => sheetsTo K M O S z c t p ++ sheetTo p c (partL K M O S z t p) (K + M)

theorem sheetTo_length (p c : Nat) (L : List ByteArray) (i : Nat) : (sheetTo p c L i).length = i := by
  induction i with
  | zero => rfl
  | succ i ih => show (sheetTo p c L i ++ [_]).length = _; rw [List.length_append, ih]; rfl

theorem sheetsTo_length (K M O S z c : Nat) (t : ByteArray) (p : Nat) : (sheetsTo K M O S z c t p).length = p * (K + M) := by
  induction p with
  | zero => simp [sheetsTo]
  | succ p ih => show (sheetsTo K M O S z c t p ++ _).length = _; rw [List.length_append, ih, sheetTo_length, Nat.succ_mul]

theorem partsN_pos (t : ByteArray) (n : Nat) (hn : 1 ≤ n) : 1 ≤ partsN t n := by
  unfold partsN
  split
  · exact Nat.le_refl _
  · rename_i h
    exact (Nat.le_div_iff_mul_le (by omega)).2 (by omega)

/-- A part lies within the text. -/
theorem partT_in (t : ByteArray) (n p : Nat) (hn : 1 ≤ n) (hp : p < partsN t n) : p * n ≤ t.size ∧ (partT t n p).size ≤ n := by
  have h1 : p * n ≤ t.size := by
    unfold partsN at hp
    split at hp
    · have : p = 0 := by omega
      subst this; simp
    · rename_i h
      have := (Nat.lt_div_iff_mul_lt (by omega)).1 hp
      omega
  refine ⟨h1, ?_⟩
  unfold partT
  rw [ByteArray.size_extract]
  split <;> omega

/-- Two places change. -/
def swapL {α : Type} (l : List α) (d : α) (i j : Nat) : List α := (l.set i (l.getD j d)).set j (l.getD i d)

theorem swapL_length {α : Type} (l : List α) (d : α) (i j : Nat) : (swapL l d i j).length = l.length := by simp [swapL]

/-- The order that is drawn, from place i down. -/
def mixFrom {α : Type} (d : α) (x : Nat) (l : List α) : Nat → List α
  | 0 => l
  | i + 1 => mixFrom d (nxt x) (swapL l d (i + 1) (nxt x % (i + 2))) i

theorem mixFrom_length {α : Type} (d : α) (x : Nat) (l : List α) (i : Nat) : (mixFrom d x l i).length = l.length := by
  induction i generalizing x l with
  | zero => rfl
  | succ i ih => show (mixFrom d (nxt x) _ i).length = _; rw [ih, swapL_length]

theorem getD_map_lt {α β : Type} (f : α → β) (l : List α) (a : α) (b : β) (i : Nat) (h : i < l.length) : (l.map f).getD i b = f (l.getD i a) := by
  rw [List.getD_eq_getElem?_getD, List.getD_eq_getElem?_getD, List.getElem?_map, List.getElem?_eq_getElem h]; rfl

theorem swapL_map {α β : Type} (f : α → β) (l : List α) (a : α) (b : β) (i j : Nat) (hi : i < l.length) (hj : j < l.length) : (swapL l a i j).map f = swapL (l.map f) b i j := by
  unfold swapL
  rw [List.map_set, List.map_set, getD_map_lt f l a b i hi, getD_map_lt f l a b j hj]

/-- To draw numbers, or what stands there: no matter. -/
theorem mixFrom_map {α β : Type} (f : α → β) (a : α) (b : β) (x : Nat) (l : List α) (i : Nat) (hi : i < l.length ∨ i = 0) : (mixFrom a x l i).map f = mixFrom b x (l.map f) i := by
  induction i generalizing x l with
  | zero => rfl
  | succ i ih =>
    have hi' : i + 1 < l.length := by omega
    have hm := Nat.mod_lt (nxt x) (show 0 < i + 2 by omega)
    show (mixFrom a (nxt x) (swapL l a (i + 1) (nxt x % (i + 2))) i).map f = mixFrom b (nxt x) (swapL (l.map f) b (i + 1) (nxt x % (i + 2))) i
    rw [ih _ _ (by rw [swapL_length]; omega), swapL_map f l a b _ _ hi' (by omega)]

theorem mem_swapL {α : Type} (l : List α) (d : α) (i j : Nat) (hi : i < l.length) (hj : j < l.length) (x : α) (h : x ∈ swapL l d i j) : x ∈ l := by
  unfold swapL at h
  rcases List.mem_or_eq_of_mem_set h with h | h
  · rcases List.mem_or_eq_of_mem_set h with h | h
    · exact h
    · rw [h, List.getD_eq_getElem?_getD, List.getElem?_eq_getElem hj]; exact List.getElem_mem _
  · rw [h, List.getD_eq_getElem?_getD, List.getElem?_eq_getElem hi]; exact List.getElem_mem _

theorem mem_mixFrom {α : Type} (d : α) (x : Nat) (l : List α) (i : Nat) (hi : i < l.length ∨ i = 0) (y : α) (h : y ∈ mixFrom d x l i) : y ∈ l := by
  induction i generalizing x l with
  | zero => exact h
  | succ i ih =>
    have hm := Nat.mod_lt (nxt x) (show 0 < i + 2 by omega)
    exact mem_swapL l d _ _ (by omega) (by omega) y (ih _ _ (by rw [swapL_length]; omega) h)

theorem range_map_getD {α : Type} (l : List α) (d : α) : (List.range l.length).map (fun k => l.getD k d) = l := by
  apply List.ext_getElem?
  intro i
  by_cases h : i < l.length
  · rw [List.getElem?_map, List.getElem?_range h, List.getElem?_eq_getElem h]
    show some (l.getD i d) = _
    rw [List.getD_eq_getElem?_getD, List.getElem?_eq_getElem h]; rfl
  · rw [List.getElem?_eq_none (by simp; omega), List.getElem?_eq_none (by omega)]

end Go.Proofs.Ytnjaofkieajnlab

/- A text cut into parts, one after the other, as plain mathematics. -/
namespace Go.Proofs.Ytnjaofkieajnlab

/-- The parts of a text, as a list. -/
def cutL (t : ByteArray) (n k : Nat) : List ByteArray := (List.range k).map (partT t n)

theorem cutL_length (t : ByteArray) (n k : Nat) : (cutL t n k).length = k := by simp [cutL]

theorem cutL_succ (t : ByteArray) (n k : Nat) : cutL t n (k + 1) = cutL t n k ++ [partT t n k] := by
  unfold cutL
  rw [List.range_succ, List.map_append]; rfl

theorem cutL_getD (t : ByteArray) (n k i : Nat) (h : i < k) : (cutL t n k).getD i ByteArray.empty = partT t n i := by
  unfold cutL
  rw [List.getD_eq_getElem?_getD, List.getElem?_map, List.getElem?_range h]; rfl

/-- What is left of a text. -/
def restT (t : ByteArray) (n p : Nat) : ByteArray := t.extract (p * n) t.size

theorem restT_size (t : ByteArray) (n p : Nat) : (restT t n p).size = t.size - p * n := by
  unfold restT; rw [ByteArray.size_extract]; omega

theorem restT_zero (t : ByteArray) (n : Nat) : restT t n 0 = t := by
  unfold restT; rw [Nat.zero_mul, ByteArray.extract_zero_size]

theorem rest_first {t : ByteArray} {n p : Nat} (h : p * n + n ≤ t.size) : (restT t n p).extract 0 n = partT t n p := by
  unfold restT partT
  rw [ByteArray.extract_extract, if_neg (by omega), Nat.add_zero, Nat.min_eq_left h]

theorem rest_next {t : ByteArray} {n p : Nat} : (restT t n p).extract n (restT t n p).size = restT t n (p + 1) := by
  rw [restT_size]
  unfold restT
  rw [ByteArray.extract_extract, Nat.succ_mul]
  congr 1
  omega

theorem rest_last {t : ByteArray} {n p : Nat} (h1 : p = 0 ∨ p * n < t.size) (hn : 1 ≤ n) (h2 : t.size ≤ p * n + n) : partsN t n = p + 1 ∧ partT t n p = restT t n p := by
  constructor
  · unfold partsN
    split
    · rename_i h0
      rcases h1 with h1 | h1
      · omega
      · omega
    · rename_i h0
      have hlt : p * n < t.size := by
        rcases h1 with h1 | h1
        · subst h1; omega
        · exact h1
      rw [Nat.div_eq_of_lt_le]
      · rw [Nat.succ_mul]; omega
      · rw [Nat.succ_mul, Nat.succ_mul]; omega
  · unfold partT restT
    split
    · rfl
    · rw [show p * n + n = t.size by omega]

theorem rest_more {t : ByteArray} {n p : Nat} (hn : 1 ≤ n) (h2 : p * n + n < t.size) : p + 1 < partsN t n := by
  unfold partsN
  rw [if_neg (by omega), Nat.lt_div_iff_mul_lt (by omega), Nat.succ_mul]
  omega

/-- How many parts there are, by the size. -/
theorem partsN_le {t : ByteArray} {n c : Nat} (hn : 1 ≤ n) (hc : 1 ≤ c) : partsN t n ≤ c ↔ t.size ≤ c * n := by
  unfold partsN
  split
  · rename_i h; rw [h]; simp [hc]
  · rename_i h
    rw [← Nat.lt_succ_iff, Nat.div_lt_iff_lt_mul (by omega), Nat.succ_mul]
    omega

end Go.Proofs.Ytnjaofkieajnlab

/- The program's inbox in memory: its cells, and the boxes within it. -/
namespace Go.Proofs.Ytnjaofkieajnlab
open Go.RowKit

/-- The cells of the program's inbox: c parts, of which the first m have boxes laid. -/
def inbCell (c K M O S z m : Nat) (ks : Nat → Kn) (i : Nat) : Value :=
  if i = 0 then .int .i64 (c : Int) else if i = 1 then .int .i64 (K : Int) else if i = 2 then .int .i64 (M : Int) else if i = 3 then .int .i64 (O : Int) else if i = 4 then .int .i64 (S : Int) else if i = 5 then .int .i64 (z : Int) else if (i - 6) / 83 < m then boxCell K (K + M) z (ofs K M O S) (ks ((i - 6) / 83)) ((i - 6) % 83) else boxCell 0 0 0 (fun _ => 0) kn0 ((i - 6) % 83)

/-- Block p is an inbox. -/
def InbAt (w : World) (p : Nat) (tt : TypeId) (c K M O S z m : Nat) (ks : Nat → Kn) : Prop := w.rowIs p tt 1666 (inbCell c K M O S z m ks)

theorem inbCell_at (c K M O S z m : Nat) (ks : Nat → Kn) (q j : Nat) (hq : q < m) (hj : j < 83) : inbCell c K M O S z m ks (6 + q * 83 + j) = boxCell K (K + M) z (ofs K M O S) (ks q) j := by
  unfold inbCell
  rw [if_neg (by omega), if_neg (by omega), if_neg (by omega), if_neg (by omega), if_neg (by omega), if_neg (by omega), show (6 + q * 83 + j - 6) / 83 = q by omega, show (6 + q * 83 + j - 6) % 83 = j by omega, if_pos hq]

theorem inbCell_box (c K M O S z m : Nat) (ks : Nat → Kn) (q : Nat) (hq : q < m) (kn : Kn) (i : Nat) : inBox (6 + q * 83) (inbCell c K M O S z m ks) K (K + M) z (ofs K M O S) kn i = inbCell c K M O S z m (fun j => if j = q then kn else ks j) i := by
  unfold inBox
  by_cases h1 : i < 6 + q * 83
  · rw [if_pos h1]
    unfold inbCell
    by_cases h6 : i < 6
    · have : i = 0 ∨ i = 1 ∨ i = 2 ∨ i = 3 ∨ i = 4 ∨ i = 5 := by omega
      rcases this with h | h | h | h | h | h <;> subst h <;> rfl
    · have e : (fun j => if j = q then kn else ks j) ((i - 6) / 83) = ks ((i - 6) / 83) := if_neg (by omega)
      rw [e]
  · rw [if_neg h1]
    by_cases h2 : i < 6 + q * 83 + 83
    · rw [if_pos h2]
      have := inbCell_at c K M O S z m (fun j => if j = q then kn else ks j) q (i - (6 + q * 83)) hq (by omega)
      rw [show 6 + q * 83 + (i - (6 + q * 83)) = i by omega, if_pos rfl] at this
      exact this.symm
    · rw [if_neg h2]
      unfold inbCell
      have e : (fun j => if j = q then kn else ks j) ((i - 6) / 83) = ks ((i - 6) / 83) := if_neg (by omega)
      rw [e]

namespace InbAt
variable {w w' : World} {p : Nat} {tt : TypeId} {c K M O S z m : Nat} {ks : Nat → Kn}

theorem lt (h : InbAt w p tt c K M O S z m ks) : p < w.heap.size := World.rowIs.lt h

theorem block (h : InbAt w p tt c K M O S z m ks) (hb : w'.heap[p]? = w.heap[p]?) : InbAt w' p tt c K M O S z m ks := World.rowIs.of_block h hb

theorem on (h : InbAt w p tt c K M O S z m ks) {n : Nat} (hm : w.heap.size ≤ n) (hb : Below n w w') : InbAt w' p tt c K M O S z m ks := h.block (hb.block p (Nat.lt_of_lt_of_le h.lt hm))

theorem cell (h : InbAt w p tt c K M O S z m ks) {i : Nat} (hi : i < 1666) : w.cell? ⟨p, i, none⟩ = some (inbCell c K M O S z m ks i) := World.rowIs.cell h hi

theorem head (h : InbAt w p tt c K M O S z m ks) : w.cell? ⟨p, 0, none⟩ = some (.int .i64 (c : Int)) ∧ w.cell? ⟨p, 1, none⟩ = some (.int .i64 (K : Int)) ∧ w.cell? ⟨p, 2, none⟩ = some (.int .i64 (M : Int)) ∧ w.cell? ⟨p, 3, none⟩ = some (.int .i64 (O : Int)) ∧ w.cell? ⟨p, 4, none⟩ = some (.int .i64 (S : Int)) ∧ w.cell? ⟨p, 5, none⟩ = some (.int .i64 (z : Int)) :=
  ⟨h.cell (i := 0) (by omega), h.cell (i := 1) (by omega), h.cell (i := 2) (by omega), h.cell (i := 3) (by omega), h.cell (i := 4) (by omega), h.cell (i := 5) (by omega)⟩

theorem frozen (h : InbAt w p tt c K M O S z m ks) (i : Nat) : w.frozen? ⟨p, i, none⟩ = false := World.rowIs.frozen h i

theorem there (h : InbAt w p tt c K M O S z m ks) (o n : Nat) (hn : o + n ≤ 1666) : w.there p o n := fun j hj => ⟨by rw [h.cell (by omega)]; rfl, h.frozen _⟩

theorem box (h : InbAt w p tt c K M O S z m ks) {q : Nat} (hq : q < m) (hq2 : q < 20) : BoxOff w p (6 + q * 83) 1666 tt (inbCell c K M O S z m ks) K (K + M) z (ofs K M O S) (ks q) :=
  ⟨by omega, World.rowIs.congr h (fun i _ => by
    rw [inbCell_box c K M O S z m ks q hq (ks q) i]
    congr 1
    funext j
    split
    · rename_i e; rw [e]
    · rfl)⟩

theorem of_box {q : Nat} (hq : q < m) {kn : Kn} (h : BoxOff w p (6 + q * 83) 1666 tt (inbCell c K M O S z m ks) K (K + M) z (ofs K M O S) kn) : InbAt w p tt c K M O S z m (fun j => if j = q then kn else ks j) :=
  World.rowIs.congr h.2 (fun i _ => inbCell_box c K M O S z m ks q hq kn i)

/-- A box is laid behind the others. -/
theorem grow (h : InbAt w p tt c K M O S z m ks) (hk : ks m = kn0) : InbAt (w.setCells p (6 + m * 83) (boxL K (K + M) z (ofs K M O S) kn0)) p tt c K M O S z (m + 1) ks := by
  refine World.rowIs.congr (row_setCells _ (6 + m * 83) _ _ h) (fun i hi => ?_)
  rw [boxL_length]
  by_cases h1 : 6 + m * 83 ≤ i ∧ i < 6 + m * 83 + 83
  · rw [if_pos h1, List.getD_eq_getElem?_getD, boxL_get _ _ _ _ _ _ (by omega)]
    have := inbCell_at c K M O S z (m + 1) ks m (i - (6 + m * 83)) (by omega) (by omega)
    rw [show 6 + m * 83 + (i - (6 + m * 83)) = i by omega, hk] at this
    rw [this]; rfl
  · rw [if_neg h1]
    unfold inbCell
    by_cases h6 : i < 6
    · have : i = 0 ∨ i = 1 ∨ i = 2 ∨ i = 3 ∨ i = 4 ∨ i = 5 := by omega
      rcases this with h | h | h | h | h | h <;> subst h <;> rfl
    · by_cases h2 : (i - 6) / 83 < m
      · rw [if_pos h2, if_pos (show (i - 6) / 83 < m + 1 by omega)]
      · rw [if_neg h2, if_neg (show ¬ (i - 6) / 83 < m + 1 by omega)]

theorem congr (h : InbAt w p tt c K M O S z m ks) {ks' : Nat → Kn} (hk : ∀ j, j < m → ks j = ks' j) : InbAt w p tt c K M O S z m ks' := World.rowIs.congr h (fun i _ => by
  unfold inbCell
  by_cases h2 : (i - 6) / 83 < m
  · rw [if_pos h2, if_pos h2, hk _ h2]
  · rw [if_neg h2, if_neg h2])

end InbAt

/-- The cells as a list. -/
def inbL (c K M O S z m : Nat) (ks : Nat → Kn) : List Value := (List.range 1666).map (inbCell c K M O S z m ks)

theorem inbL_length (c K M O S z m : Nat) (ks : Nat → Kn) : (inbL c K M O S z m ks).length = 1666 := by simp [inbL]

theorem inbL_get (c K M O S z m : Nat) (ks : Nat → Kn) (i : Nat) (hi : i < 1666) : (inbL c K M O S z m ks)[i]? = some (inbCell c K M O S z m ks i) := by
  unfold inbL
  rw [List.getElem?_map, List.getElem?_range hi]; rfl

theorem inbL_one (c K M O S z m : Nat) (ks : Nat → Kn) : ∀ v ∈ inbL c K M O S z m ks, v.oneCell' = true := by
  intro v hv
  obtain ⟨i, _, rfl⟩ := List.mem_map.1 hv
  unfold inbCell
  repeat' split
  all_goals first | rfl | exact boxCell_one _ _ _ _ _ _

theorem inbL_range {w : World} {p : Nat} {tt : TypeId} {c K M O S z m : Nat} {ks : Nat → Kn} (h : InbAt w p tt c K M O S z m ks) : w.rangeAt p 0 (inbL c K M O S z m ks) := fun j v hv => by
  have hj : j < 1666 := by have := (List.getElem?_eq_some_iff.1 hv).1; rwa [inbL_length] at this
  rw [inbL_get _ _ _ _ _ _ _ _ _ hj] at hv
  rw [Nat.zero_add, h.cell hj, hv]

theorem inb_stored {w : World} {p : Nat} {tt : TypeId} {c' K' M' O' S' z' m' : Nat} {ks' : Nat → Kn} (h : InbAt w p tt c' K' M' O' S' z' m' ks') (c K M O S z m : Nat) (ks : Nat → Kn) : InbAt (w.setCells p 0 (inbL c K M O S z m ks)) p tt c K M O S z m ks := by
  refine World.rowIs.congr (row_setCells _ 0 _ _ h) (fun i hi => ?_)
  rw [inbL_length, if_pos (by omega), Nat.sub_zero, List.getD_eq_getElem?_getD, inbL_get _ _ _ _ _ _ _ _ _ hi]; rfl

theorem inb_new (w : World) (tt : TypeId) (c K M O S z m : Nat) (ks : Nat → Kn) : InbAt (w.alloc (.cells (inbL c K M O S z m ks).toArray tt)) w.heap.size tt c K M O S z m ks := by
  refine ⟨_, heap_alloc_new w _, by simp [inbL], fun i hi => ?_⟩
  rw [List.getElem?_toArray, inbL_get _ _ _ _ _ _ _ _ _ hi]

theorem built_inb (c K M O S z : Nat) : Try.prog.built 72 [(0, .int .i64 (c : Int)), (1, specV K M O S), (2, .int .i64 (z : Int))] = some (inbL c K M O S z 0 (fun _ => kn0)).toArray := by kernel_rfl

theorem built_noinb : Try.prog.built 74 [] = some (inbL 0 0 0 0 0 0 0 (fun _ => kn0)).toArray := by kernel_rfl

end Go.Proofs.Ytnjaofkieajnlab

/- An inbox as plain mathematics: what it has taken, and what it answers. -/
namespace Go.Proofs.Ytnjaofkieajnlab

/-- What an inbox has taken: a specification, a size, and of each part what a catcher has; no parts: nothing was taken. -/
structure IS where
  K : Nat
  M : Nat
  O : Nat
  S : Nat
  z : Nat
  parts : List CS

def IS.zero : IS := ⟨0, 0, 0, 0, 0, []⟩

/-- Of this specification and size. -/
def partOf (s : IS) (c : CS) : Prop := c.tk = true → c.K = s.K ∧ c.M = s.M ∧ c.O = s.O ∧ c.S = s.S ∧ c.z = s.z

structure ISok (s : IS) : Prop where
  none : s.parts = [] → s = IS.zero
  spec : s.parts ≠ [] → SpecOk s.K s.M s.O s.S s.z
  len : s.parts.length ≤ 20
  each : ∀ c ∈ s.parts, CSok c ∧ partOf s c

theorem ISok.new : ISok IS.zero := ⟨fun _ => rfl, fun h => absurd rfl h, Nat.zero_le _, fun c hc => by simp [IS.zero] at hc⟩

/-- The packet within a sheet, its part's number, how many parts. -/
def tQ (t : ByteArray) : ByteArray := t.extract 3 t.size
def tP (t : ByteArray) : Nat := (byteAt t 1).toNat
def tN (t : ByteArray) : Nat := (byteAt t 2).toNat

/-- The three bytes ahead are a sheet's. -/
def headOk (t : ByteArray) : Prop := 4 ≤ t.size ∧ byteAt t 0 = 83 ∧ 1 ≤ tN t ∧ tN t ≤ 20 ∧ tP t < tN t

def headSb (t : ByteArray) : Bool := decide (4 ≤ t.size ∧ byteAt t 0 = 83 ∧ 1 ≤ tN t ∧ tN t ≤ 20 ∧ tP t < tN t)

theorem headSb_iff (t : ByteArray) : headSb t = true ↔ headOk t := decide_eq_true_iff

def sameI (s : IS) (t : ByteArray) : Bool := decide (rK (tQ t) = s.K ∧ rM (tQ t) = s.M ∧ rO (tQ t) = s.O ∧ rS (tQ t) = s.S ∧ rZ (tQ t) = s.z ∧ tN t = s.parts.length)

theorem sameI_iff (s : IS) (t : ByteArray) : sameI s t = true ↔ (rK (tQ t) = s.K ∧ rM (tQ t) = s.M ∧ rO (tQ t) = s.O ∧ rS (tQ t) = s.S ∧ rZ (tQ t) = s.z ∧ tN t = s.parts.length) := decide_eq_true_iff

/-- The parts that a sheet speaks of. -/
def partsOf (s : IS) (t : ByteArray) : List CS := if s.parts = [] then List.replicate (tN t) CS.zero else s.parts

/-- What Take answers. -/
def takeE (s : IS) (t : ByteArray) : Int := if headSb t = false ∨ packetB (tQ t) = false then 6 else if s.parts ≠ [] ∧ sameI s t = false then 7 else hearE ((partsOf s t).getD (tP t) CS.zero) (tQ t)

/-- What an inbox has taken behind it. -/
def takeS (s : IS) (t : ByteArray) : IS := if takeE s t = 0 then ⟨rK (tQ t), rM (tQ t), rO (tQ t), rS (tQ t), rZ (tQ t), (partsOf s t).set (tP t) (hearS ((partsOf s t).getD (tP t) CS.zero) (tQ t))⟩ else s

/-- What Lacks answers. -/
def lackC (K : Nat) (c : CS) : Nat := if c.tk = true then openK c.kn c.K else K

def lackTo (s : IS) : Nat → Nat
  | 0 => 0
  | i + 1 => lackTo s i + lackC s.K (s.parts.getD i CS.zero)

def lackE (s : IS) : Int := if s.parts = [] then -1 else (lackTo s s.parts.length : Int)

/-- The objects of the first parts, joined. -/
def wholeTo (s : IS) : Nat → ByteArray
  | 0 => ByteArray.empty
  | i + 1 => wholeTo s i ++ (objE (s.parts.getD i CS.zero)).1

def isOpen (s : IS) : Bool := s.parts.any (fun c => decide ((objE c).2 = 5))
def isForm (s : IS) : Bool := s.parts.all (fun c => decide ((objE c).2 = 0))

def isCut (s : IS) (T : ByteArray) : Bool := (List.range s.parts.length).all (fun p => decide ((objE (s.parts.getD p CS.zero)).1 = partT T (s.K * s.z - 2) p))

/-- What Whole answers. -/
def wholeE (s : IS) : ByteArray × Int :=
  if s.parts = [] ∨ isOpen s = true then (⟨#[]⟩, 5)
  else if isForm s = true ∧ 3 ≤ s.K * s.z ∧ partsN (wholeTo s s.parts.length) (s.K * s.z - 2) = s.parts.length ∧ isCut s (wholeTo s s.parts.length) = true then (wholeTo s s.parts.length, 0)
  else (⟨#[]⟩, 8)

theorem getD_mem {α : Type} {l : List α} {i : Nat} (h : i < l.length) (d : α) : l.getD i d ∈ l := by
  rw [List.getD_eq_getElem?_getD, List.getElem?_eq_getElem h]; exact List.getElem_mem _

theorem ISok.part {s : IS} (h : ISok s) {i : Nat} (hi : i < s.parts.length) : CSok (s.parts.getD i CS.zero) ∧ partOf s (s.parts.getD i CS.zero) := h.each _ (getD_mem hi _)

theorem partsOf_len {s : IS} {t : ByteArray} (h : s.parts = [] ∨ tN t = s.parts.length) : (partsOf s t).length = tN t := by
  unfold partsOf
  split
  · exact List.length_replicate
  · rename_i hne
    rcases h with h | h
    · exact absurd h hne
    · exact h.symm

theorem partsOf_ok {s : IS} (h : ISok s) (t : ByteArray) : ∀ c ∈ partsOf s t, CSok c ∧ partOf s c := by
  intro c hc
  unfold partsOf at hc
  split at hc
  · rw [List.eq_of_mem_replicate hc]
    exact ⟨CSok.new, fun e => (by cases e)⟩
  · exact h.each c hc

/-- What was taken stays well formed. -/
theorem ISok.take {s : IS} (h : ISok s) (t : ByteArray) : ISok (takeS s t) := by
  unfold takeS
  by_cases h0 : takeE s t = 0
  · rw [if_pos h0]
    have h0' := h0
    unfold takeE at h0
    by_cases h1 : headSb t = false ∨ packetB (tQ t) = false
    · rw [if_pos h1] at h0; cases h0
    · rw [if_neg h1] at h0
      by_cases h2 : s.parts ≠ [] ∧ sameI s t = false
      · rw [if_pos h2] at h0; cases h0
      · rw [if_neg h2] at h0
        have hh : headOk t := (headSb_iff t).1 (by cases hx : headSb t with | true => rfl | false => exact absurd (Or.inl hx) h1)
        have hp : PacketOk (tQ t) := (packetB_iff _).1 (by cases hx : packetB (tQ t) with | true => rfl | false => exact absurd (Or.inr hx) h1)
        obtain ⟨a1, a2, a3, a4, a5, a6, a7⟩ := hp.has
        have hsame : s.parts = [] ∨ (rK (tQ t) = s.K ∧ rM (tQ t) = s.M ∧ rO (tQ t) = s.O ∧ rS (tQ t) = s.S ∧ rZ (tQ t) = s.z ∧ tN t = s.parts.length) := by
          by_cases hn : s.parts = []
          · exact Or.inl hn
          · right
            refine (sameI_iff s t).1 ?_
            cases hx : sameI s t with
            | true => rfl
            | false => exact absurd ⟨hn, hx⟩ h2
        have hlen : (partsOf s t).length = tN t := partsOf_len (hsame.imp id (fun x => x.2.2.2.2.2))
        obtain ⟨_, _, n1, n2, n3⟩ := hh
        have hne : (partsOf s t).set (tP t) (hearS ((partsOf s t).getD (tP t) CS.zero) (tQ t)) ≠ [] := fun e => by
          have := congrArg List.length e
          rw [List.length_set, hlen] at this
          simp at this
          omega
        have hT : (hearS ((partsOf s t).getD (tP t) CS.zero) (tQ t)) = ⟨true, rK (tQ t), rM (tQ t), rO (tQ t), rS (tQ t), rZ (tQ t), putK ((partsOf s t).getD (tP t) CS.zero).kn (ofs (rK (tQ t)) (rM (tQ t)) (rO (tQ t)) (rS (tQ t)) (rI (tQ t))) (rQ (tQ t)), if (hearL ((partsOf s t).getD (tP t) CS.zero) (tQ t)).1 = 0 then ((partsOf s t).getD (tP t) CS.zero).ps else ((partsOf s t).getD (tP t) CS.zero).ps ++ [(rI (tQ t), rQ (tQ t))]⟩ := by
          unfold hearS
          rw [if_pos h0]
        refine ⟨fun e => absurd e hne, fun _ => ⟨a1, a2, a3, a4, a5⟩, by rw [List.length_set, hlen]; exact n2, fun c hc => ?_⟩
        rcases List.mem_or_eq_of_mem_set hc with hc | hc
        · obtain ⟨g1, g2⟩ := partsOf_ok h t c hc
          refine ⟨g1, fun hk => ?_⟩
          rcases hsame with hs | ⟨e1, e2, e3, e4, e5, _⟩
          · unfold partsOf at hc
            rw [if_pos hs] at hc
            rw [List.eq_of_mem_replicate hc] at hk
            cases hk
          · have := g2 hk
            exact ⟨this.1.trans e1.symm, this.2.1.trans e2.symm, this.2.2.1.trans e3.symm, this.2.2.2.1.trans e4.symm, this.2.2.2.2.trans e5.symm⟩
        · rw [hc]
          refine ⟨(partsOf_ok h t _ (getD_mem (by omega) _)).1.hear (tQ t), fun _ => ?_⟩
          rw [hT]
          exact ⟨rfl, rfl, rfl, rfl, rfl⟩
  · rw [if_neg h0]; exact h

end Go.Proofs.Ytnjaofkieajnlab
