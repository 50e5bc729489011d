/- Texts of the proof, part 20. -/
import Derived.Test.YtnjaofkieajnlabPostedG14
import Derived.Test.YtnjaofkieajnlabPostedG17
import Derived.Test.YtnjaofkieajnlabPostedG18

/- A large object's sheets, taken: plain mathematics. -/
namespace Go.Proofs.Ytnjaofkieajnlab

/-- The order that is drawn loses nothing. -/
theorem swapL_mem {α : Type} (l : List α) (d : α) (i j : Nat) (hi : i < l.length) (hj : j < l.length) (x : α) (h : x ∈ l) : x ∈ swapL l d i j := by
  obtain ⟨k, hk, rfl⟩ := List.mem_iff_getElem.1 h
  have hl := swapL_length l d i j
  have hget : ∀ m, m < l.length → (swapL l d i j)[m]? = some (if m = j then l.getD i d else if m = i then l.getD j d else l.getD m d) := fun m hm => by
    unfold swapL
    by_cases e1 : m = j
    · rw [if_pos e1, e1, List.getElem?_set_self (by rw [List.length_set]; exact hj)]
    · rw [if_neg e1, List.getElem?_set_ne (fun e => e1 e.symm)]
      by_cases e2 : m = i
      · rw [if_pos e2, e2, List.getElem?_set_self hi]
      · rw [if_neg e2, List.getElem?_set_ne (fun e => e2 e.symm), List.getD_eq_getElem?_getD, List.getElem?_eq_getElem hm]; rfl
  have hkd : l[k] = l.getD k d := by rw [List.getD_eq_getElem?_getD, List.getElem?_eq_getElem hk]; rfl
  rw [hkd]
  by_cases e1 : k = i
  · have := hget j hj
    rw [if_pos rfl] at this
    rw [e1]
    exact List.mem_of_getElem? this
  · by_cases e2 : k = j
    · have := hget i hi
      by_cases e3 : i = j
      · exact absurd (e2.trans e3.symm) e1
      · rw [if_neg e3, if_pos rfl] at this
        rw [e2]
        exact List.mem_of_getElem? this
    · have := hget k hk
      rw [if_neg e2, if_neg e1] at this
      exact List.mem_of_getElem? this

theorem mixFrom_mem {α : Type} (d : α) (x : Nat) (l : List α) (i : Nat) (hi : i < l.length ∨ i = 0) (y : α) (h : y ∈ l) : y ∈ mixFrom d x l i := by
  induction i generalizing x l with
  | zero => exact h
  | succ i ih =>
    have hm := Nat.mod_lt (nxt x) (show 0 < i + 2 by omega)
    exact ih _ _ (by rw [swapL_length]; omega) (swapL_mem l d _ _ (by omega) (by omega) y h)

theorem mem_sheetTo {p c : Nat} {L : List ByteArray} {i : Nat} {y : ByteArray} : y ∈ sheetTo p c L i ↔ ∃ j, j < i ∧ y = sheetB p c (L.getD j ByteArray.empty) := by
  induction i with
  | zero => exact ⟨fun h => absurd h (by simp [sheetTo]), fun ⟨j, hj, _⟩ => absurd hj (Nat.not_lt_zero _)⟩
  | succ i ih =>
    show y ∈ sheetTo p c L i ++ [_] ↔ _
    rw [List.mem_append, ih, List.mem_singleton]
    constructor
    · rintro (⟨j, hj, e⟩ | e)
      · exact ⟨j, by omega, e⟩
      · exact ⟨i, by omega, e⟩
    · rintro ⟨j, hj, e⟩
      by_cases h : j < i
      · exact Or.inl ⟨j, h, e⟩
      · exact Or.inr (by rw [show i = j by omega]; exact e)

theorem mem_sheetsTo {K M O S z c : Nat} {t : ByteArray} {n : Nat} {y : ByteArray} : y ∈ sheetsTo K M O S z c t n ↔ ∃ p, p < n ∧ ∃ j, j < K + M ∧ y = sheetB p c ((partL K M O S z t p).getD j ByteArray.empty) := by
  induction n with
  | zero => exact ⟨fun h => absurd h (by simp [sheetsTo]), fun ⟨j, hj, _⟩ => absurd hj (Nat.not_lt_zero _)⟩
  | succ n ih =>
    show y ∈ sheetsTo K M O S z c t n ++ _ ↔ _
    rw [List.mem_append, ih, mem_sheetTo]
    constructor
    · rintro (⟨p, hp, e⟩ | e)
      · exact ⟨p, by omega, e⟩
      · exact ⟨n, by omega, e⟩
    · rintro ⟨p, hp, e⟩
      by_cases h : p < n
      · exact Or.inl ⟨p, h, e⟩
      · exact Or.inr (by rw [show n = p by omega]; exact e)

/-- A sheet, read. -/
theorem sheet_read {p c : Nat} {k : ByteArray} (hp : p < c) (hc : c ≤ 20) (hk : 1 ≤ k.size) : headOk (sheetB p c k) ∧ tP (sheetB p c k) = p ∧ tN (sheetB p c k) = c ∧ tQ (sheetB p c k) = k := by
  have hs : (sheetB p c k).size = 3 + k.size := by
    unfold sheetB
    rw [ByteArray.size_append]
    rfl
  have hb : ∀ j, j < 3 → byteAt (sheetB p c k) j = byteAt ((⟨#[83]⟩ : ByteArray) ++ ⟨#[UInt8.ofNat p, UInt8.ofNat c]⟩) j := fun j hj => by
    unfold sheetB
    rw [byteAt_left _ _ _ (by show j < 3; exact hj)]
  have e1 : tP (sheetB p c k) = p := by unfold tP; rw [hb 1 (by omega)]; exact u8_nat p (by omega)
  have e2 : tN (sheetB p c k) = c := by unfold tN; rw [hb 2 (by omega)]; exact u8_nat c (by omega)
  refine ⟨⟨by omega, by rw [hb 0 (by omega)]; rfl, by omega, by omega, by omega⟩, e1, e2, ?_⟩
  unfold tQ
  refine bytes_ext (by rw [ByteArray.size_extract, hs]; omega) (fun j hj => ?_)
  rw [ByteArray.size_extract, hs] at hj
  rw [byteAt_extract _ _ _ _ (by rw [hs]; omega) (by omega)]
  unfold sheetB
  rw [byteAt_right _ _ _ (by show 3 ≤ 3 + j; omega) (by show 3 + j < 3 + k.size; omega)]
  show byteAt k (3 + j - 3) = _
  rw [Nat.add_sub_cancel_left]

/-- What an inbox has taken is the large object's: P p is the word of part p. -/
structure PosOk (K M O S z c : Nat) (P : Nat → List ByteArray) (s : IS) : Prop where
  ok : ISok s
  same : s.parts ≠ [] → s.K = K ∧ s.M = M ∧ s.O = O ∧ s.S = S ∧ s.z = z ∧ s.parts.length = c
  each : ∀ p, p < s.parts.length → CarOk K M O S z (P p) (s.parts.getD p CS.zero)

theorem PosOk.new (K M O S z c : Nat) (P : Nat → List ByteArray) : PosOk K M O S z c P IS.zero :=
  ⟨ISok.new, fun h => absurd rfl h, fun _ hp => absurd hp (Nat.not_lt_zero _)⟩

/-- What is told of a part. -/
def toldP (K M O S : Nat) (s : IS) (p i : Nat) : Prop := s.parts ≠ [] ∧ (s.parts.getD p CS.zero).tk = true ∧ toldIn K M O S (s.parts.getD p CS.zero) i

theorem PosOk.take {K M O S z c : Nat} {P : Nat → List ByteArray} {s : IS} (h : PosOk K M O S z c P s) (hs : SpecOk K M O S z) (hc : c ≤ 20) (hw : ∀ p, p < c → IsWord K M O S z (P p)) {p i : Nat} (hp : p < c) (hi : i < K + M) {t : ByteArray} (ht : t = sheetB p c (packB K M O S z i ((P p).getD i ByteArray.empty))) :
    takeE s t = 0 ∧ PosOk K M O S z c P (takeS s t) ∧ toldP K M O S (takeS s t) p i ∧ (∀ p' i', p' < c → toldP K M O S s p' i' → toldP K M O S (takeS s t) p' i') := by
  have hk := packB_is (i := i) (q := (P p).getD i ByteArray.empty) hs hi ((hw p hp).at_size hi)
  have hks : 1 ≤ (packB K M O S z i ((P p).getD i ByteArray.empty)).size := by have := hk.ok.1; omega
  obtain ⟨hh, e1, e2, e3⟩ := sheet_read (k := packB K M O S z i ((P p).getD i ByteArray.empty)) hp hc hks
  rw [← ht] at hh e1 e2 e3
  have hpk : PacketOk (tQ t) := by rw [e3]; exact hk.ok
  have hpar : s.parts = [] ∨ (rK (tQ t) = s.K ∧ rM (tQ t) = s.M ∧ rO (tQ t) = s.O ∧ rS (tQ t) = s.S ∧ rZ (tQ t) = s.z ∧ tN t = s.parts.length) := by
    by_cases hn : s.parts = []
    · exact Or.inl hn
    · right
      obtain ⟨f1, f2, f3, f4, f5, f6⟩ := h.same hn
      rw [e3, hk.k, hk.m, hk.o, hk.s, hk.z, e2, f1, f2, f3, f4, f5, f6]
      exact ⟨rfl, rfl, rfl, rfl, rfl, rfl⟩
  have hlen : (partsOf s t).length = c := by
    rw [partsOf_len (hpar.imp id (fun x => x.2.2.2.2.2)), e2]
  have hcar : ∀ q, q < c → CarOk K M O S z (P q) ((partsOf s t).getD q CS.zero) := fun q hq => by
    unfold partsOf
    by_cases hn : s.parts = []
    · rw [if_pos hn, List.getD_eq_getElem?_getD, List.getElem?_replicate]
      split
      · exact CarOk.new _ _ _ _ _ _
      · exact CarOk.new _ _ _ _ _ _
    · rw [if_neg hn]
      exact h.each q (by rw [(h.same hn).2.2.2.2.2]; exact hq)
  obtain ⟨u1, u2, u3, u4, u5⟩ := (hcar p hp).hear hs (hw p hp) hi
  have he : takeE s t = 0 := by rw [takeE_main hh hpk hpar, e1, e3]; exact u1
  have hS : takeS s t = ⟨K, M, O, S, z, (partsOf s t).set p (hearS ((partsOf s t).getD p CS.zero) (packB K M O S z i ((P p).getD i ByteArray.empty)))⟩ := by
    unfold takeS
    rw [if_pos he, e1, e3, hk.k, hk.m, hk.o, hk.s, hk.z]
  have hne : (partsOf s t).set p (hearS ((partsOf s t).getD p CS.zero) (packB K M O S z i ((P p).getD i ByteArray.empty))) ≠ [] := fun e => by
    have := congrArg List.length e
    rw [List.length_set, hlen] at this
    simp at this
    omega
  have hg : ∀ q, ((takeS s t).parts.getD q CS.zero) = if q = p then hearS ((partsOf s t).getD p CS.zero) (packB K M O S z i ((P p).getD i ByteArray.empty)) else (partsOf s t).getD q CS.zero := fun q => by
    rw [hS]
    exact getD_set _ _ _ _ _ (by omega)
  have hok := h.ok.take t
  refine ⟨he, ⟨hok, fun _ => by rw [hS]; exact ⟨rfl, rfl, rfl, rfl, rfl, by show List.length _ = c; rw [List.length_set, hlen]⟩, fun q hq => ?_⟩, ⟨by rw [hS]; exact hne, ?_⟩, fun p' i' hp' ht' => ⟨by rw [hS]; exact hne, ?_⟩⟩
  · have hq2 : q < c := by rw [hS] at hq; simpa [hlen] using hq
    rw [hg q]
    by_cases e : q = p
    · rw [if_pos e, e]; exact u2
    · rw [if_neg e]; exact hcar q hq2
  · rw [hg p, if_pos rfl]
    exact ⟨u3, u4⟩
  · have hpo : partsOf s t = s.parts := by unfold partsOf; rw [if_neg ht'.1]
    rw [hg p']
    by_cases e : p' = p
    · rw [if_pos e]
      have := ht'.2.2
      rw [e, ← hpo] at this
      exact ⟨u3, u5 i' this⟩
    · rw [if_neg e, hpo]
      exact ht'.2

/-- The parts of a text, joined, are the text. -/
theorem whole_text {s : IS} {t : ByteArray} {n : Nat} (ho : ∀ q, q < s.parts.length → (objE (s.parts.getD q CS.zero)).1 = partT t n q) (m : Nat) (hm : m ≤ s.parts.length) (hm2 : m * n ≤ t.size ∨ (m = partsN t n ∧ 1 ≤ n)) : wholeTo s m = t.extract 0 (if m * n ≤ t.size then m * n else t.size) := by
  induction m with
  | zero => simp [wholeTo]
  | succ m ih =>
    have hmn : m * n ≤ t.size := by
      rcases hm2 with h | ⟨h, hn⟩
      · rw [Nat.succ_mul] at h; omega
      · exact (partT_in t n m hn (by omega)).1
    show wholeTo s m ++ _ = _
    rw [ih (by omega) (Or.inl hmn), ho m (by omega), if_pos hmn]
    unfold partT
    rw [Nat.succ_mul]
    by_cases h : t.size < m * n + n
    · rw [if_pos h, if_neg (by omega)]
      rw [ByteArray.extract_append_extract]
      simp
    · rw [if_neg h, if_pos (by omega)]
      rw [ByteArray.extract_append_extract]
      simp

/-- Whole gives the large object, or nothing yet. -/
theorem PosOk.whole {K M O S z c : Nat} {t : ByteArray} {s : IS} (h : PosOk K M O S z c (fun p => objWord K M O S z (partT t (K * z - 2) p)) s) (hs : SpecOk K M O S z) (h3 : 3 ≤ K * z) (hc : c = partsN t (K * z - 2)) :
    (s.parts ≠ [] ∧ wholeE s = (t, 0)) ∨ wholeE s = (⟨#[]⟩, 5) := by
  by_cases hn : s.parts = []
  · exact Or.inr (whole_open (Or.inl hn))
  · obtain ⟨f1, f2, f3, f4, f5, f6⟩ := h.same hn
    by_cases hop : ∃ i, i < s.parts.length ∧ (objE (s.parts.getD i CS.zero)).2 = 5
    · exact Or.inr (whole_open (Or.inr hop))
    · left
      refine ⟨hn, ?_⟩
      have hob : ∀ q, q < s.parts.length → objE (s.parts.getD q CS.zero) = (partT t (K * z - 2) q, 0) := fun q hq => by
        have hps := (partT_in t (K * z - 2) q (by omega) (by omega)).2
        rcases (h.each q hq).obj hs (by omega) with ⟨_, _, e⟩ | ⟨_, e⟩
        · exact e
        · exact absurd ⟨q, hq, by rw [e]⟩ hop
      have hW : wholeTo s s.parts.length = t := by
        have := whole_text (t := t) (n := K * z - 2) (fun q hq => by rw [hob q hq]) s.parts.length (Nat.le_refl _) (Or.inr ⟨by omega, by omega⟩)
        rw [this]
        have hle := (partsN_le (t := t) (n := K * z - 2) (c := s.parts.length) (by omega) (by have := partsN_pos t (K * z - 2) (by omega); omega)).1 (by omega)
        by_cases e : s.parts.length * (K * z - 2) ≤ t.size
        · rw [if_pos e, show s.parts.length * (K * z - 2) = t.size by omega]; simp
        · rw [if_neg e]; simp
      rw [whole_yes hn (fun q hq => by rw [hob q hq]) (by rw [f1, f5]; exact h3) (by rw [hW, f1, f5]; omega) (fun q hq => by rw [hW, f1, f5, hob q hq]), hW]

/-- Behind all sheets of data. -/
theorem PosOk.done {K M O S z c : Nat} {t : ByteArray} {s : IS} (h : PosOk K M O S z c (fun p => objWord K M O S z (partT t (K * z - 2) p)) s) (hs : SpecOk K M O S z) (h3 : 3 ≤ K * z) (hc : c = partsN t (K * z - 2)) (hall : ∀ p, p < c → ∀ j, j < K → toldP K M O S s p j) : wholeE s = (t, 0) ∧ lackE s = 0 := by
  have hc1 : 1 ≤ c := by rw [hc]; exact partsN_pos t _ (by omega)
  have hn : s.parts ≠ [] := (hall 0 hc1 0 (by have := hs.hK; omega)).1
  obtain ⟨f1, f2, f3, f4, f5, f6⟩ := h.same hn
  have hwh : ∀ q, q < s.parts.length → objE (s.parts.getD q CS.zero) = (partT t (K * z - 2) q, 0) ∧ wantE (s.parts.getD q CS.zero) = 0 := fun q hq => by
    have hps := (partT_in t (K * z - 2) q (by omega) (by omega)).2
    exact (h.each q hq).whole hs (by omega) (hall q (by omega) 0 (by have := hs.hK; omega)).2.1 (fun j hj => (hall q (by omega) j hj).2.2)
  constructor
  · rcases h.whole hs h3 hc with ⟨_, e⟩ | e
    · exact e
    · exfalso
      by_cases hop : ∃ i, i < s.parts.length ∧ (objE (s.parts.getD i CS.zero)).2 = 5
      · obtain ⟨i, hi, e5⟩ := hop
        rw [(hwh i hi).1] at e5
        cases e5
      · unfold wholeE at e
        have ho : ¬ (s.parts = [] ∨ isOpen s = true) := fun x => by
          rcases x with x | x
          · exact hn x
          · exact hop ((any_iff s).1 x)
        rw [if_neg ho] at e
        split at e
        · have := congrArg Prod.snd e
          cases this
        · have := congrArg Prod.snd e
          cases this
  · unfold lackE
    rw [if_neg hn]
    have hl0 : ∀ m, m ≤ s.parts.length → lackTo s m = 0 := fun m => by
      induction m with
      | zero => intro _; rfl
      | succ m ih =>
        intro hm
        show lackTo s m + lackC s.K (s.parts.getD m CS.zero) = 0
        rw [ih (by omega)]
        have hk := (hall m (by omega) 0 (by have := hs.hK; omega)).2.1
        have hw := (hwh m (by omega)).2
        unfold wantE at hw
        rw [if_pos hk] at hw
        unfold lackC
        rw [if_pos hk]
        omega
    rw [hl0 _ (Nat.le_refl _)]
    rfl

end Go.Proofs.Ytnjaofkieajnlab

/- The program's large objects: the order that is drawn. -/
namespace Go.Proofs.Ytnjaofkieajnlab
open Go.RowKit

set_option maxRecDepth 100000 in
set_option maxHeartbeats 400000 in
theorem below_big (b : Nat) (x n : Int) (w : World) (hx : 0 ≤ x ∧ x ≤ 65536) (hn : 1 ≤ n ∧ n ≤ 1000) (hc : w.cell? ⟨b, 0, none⟩ = some (.int .i64 x)) (hf : w.frozen? ⟨b, 0, none⟩ = false) :
    Calls Try.prog 70 #[.pointer (some ⟨b, 0, none⟩), .int .i64 n] w fun e w' => e = .returned (.int .i64 ((75 * x + 74) % 65537 % n)) ∧ w' = w.setCell ⟨b, 0, none⟩ (.int .i64 ((75 * x + 74) % 65537)) := by
  go_enter Try.func70, Try.ntmps70
  go_wp2
  go_ret
  exact ⟨rfl, rfl⟩

theorem below_bignat (b x n : Nat) (w : World) (hx : x < 65537) (hn : 1 ≤ n ∧ n ≤ 1000) (hb : w.heap[b]? = some (.cells #[.int .i64 (x : Int)] 115 (0, 0))) :
    Calls Try.prog 70 #[.pointer (some ⟨b, 0, none⟩), .int .i64 (n : Int)] w fun e w' => e = .returned (.int .i64 ((nxt x % n : Nat) : Int)) ∧ w' = w.setCell ⟨b, 0, none⟩ (.int .i64 (nxt x : Int)) := by
  have h := below_big b (x : Int) (n : Int) w (by omega) (by omega) (by rw [cell_of_row _ _ _ _ _ _ hb]; rfl) (frozen_of_row _ _ _ _ _ hb)
  have e1 : (75 * (x : Int) + 74) % 65537 = ((nxt x : Nat) : Int) := by unfold nxt; omega
  have e2 : ((nxt x : Nat) : Int) % (n : Int) = ((nxt x % n : Nat) : Int) := by omega
  rw [e1, e2] at h
  exact h

theorem textV_set (l : List ByteArray) (i : Nat) (t : ByteArray) : (textV l).set i (.string t) = textV (l.set i t) := by
  unfold textV; rw [List.map_set]

theorem owns_swap {w : World} {base g n cap : Nat} {A : List ByteArray} (h : w.ownsRow base 9 1 (.slice (some ⟨g, 0, none⟩) n cap) n (textV A)) (i j : Nat) : ((w.setCell ⟨g, i, none⟩ (.string (A.getD j ByteArray.empty))).setCell ⟨g, j, none⟩ (.string (A.getD i ByteArray.empty))).ownsRow base 9 1 (.slice (some ⟨g, 0, none⟩) n cap) n (textV (swapL A ByteArray.empty i j)) := by
  have h1 := (h.stored i (.string (A.getD j ByteArray.empty))).1
  rw [textV_set] at h1
  have h2 := (h1.stored j (.string (A.getD i ByteArray.empty))).1
  rw [textV_set] at h2
  exact h2

theorem owns_at {w : World} {base g n cap : Nat} {A : List ByteArray} (h : w.ownsRow base 9 1 (.slice (some ⟨g, 0, none⟩) n cap) n (textV A)) {i : Nat} (hi : i < n) (hA : A.length = n) : w.cell? ⟨g, i, none⟩ = some (.string (A.getD i ByteArray.empty)) := by
  rw [h.cellAt i (by omega), textV_get A i (by omega)]

set_option maxRecDepth 100000 in
set_option maxHeartbeats 8000000 in
theorem lshuf_any (v : Value) (L : List ByteArray) (x0 : Nat) (w : World) (hL : TextsAt w v L) (hl : 1 ≤ L.length ∧ L.length ≤ 1000) (hx0 : x0 ≤ 65536) :
    Calls Try.prog 57 #[v, .int .i64 (x0 : Int)] w fun e w' => ∃ v', e = .returned v' ∧ w'.ownsRow w.heap.size 9 1 v' L.length (textV (mixFrom ByteArray.empty x0 L (L.length - 1))) ∧ Below w.heap.size w w' := by
  obtain ⟨j0, gi, gz0, gz1, gz2⟩ := info_parts Try.infoText
  obtain ⟨ao, cap, rfl, hcap, hT⟩ := hL
  obtain ⟨n, hn⟩ : ∃ n, n = L.length := ⟨_, rfl⟩
  rw [← hn] at hl hcap hT ⊢
  obtain ⟨q, o, rfl, hq, _⟩ := hT 0 (by omega)
  have hnews : ∀ j u, (textV L)[j]? = some u → w.cell? ((⟨q, o, none⟩ : Addr).add j) = some u := fun j u hj => by
    have hjn : j < L.length := by have := (List.getElem?_eq_some_iff.1 hj).1; rwa [textV_length] at this
    obtain ⟨q', o', e1, e2, e3⟩ := hT j (by omega)
    simp only [Option.some.injEq, Addr.mk.injEq, and_true] at e1
    obtain ⟨rfl, rfl⟩ := e1
    rw [textV_get L j hjn] at hj
    rw [Addr.add_mid, e3, ← hj]
  have hmk := run_make_texts n (by omega)
  have hLn := hide hn
  have HNw := hide hnews
  have hlen := textV_length L
  rw [← hn] at hlen
  clear hn hT hnews
  go_enter Try.func57, Try.ntmps57
  go_upto_region 2 with fail
  have hst : (w.alloc (.cells (madeCells #[.string ByteArray.empty] n) 9)).ownsRow w.heap.size 9 1 (.slice (some ⟨w.heap.size, 0, none⟩) 0 n) 0 [] := World.ownsRow_made (base := w.heap.size) (e := 9) (size := 1) w (madeCells #[.string ByteArray.empty] n) n (Nat.le_refl _) (by unfold maxLen; omega) (by simp [size_madeCells])
  have hbS : Below w.heap.size w (w.alloc (.cells (madeCells #[.string ByteArray.empty] n) 9)) := (Below.refl _ _).alloc (Nat.le_refl _) _
  have HNw2 : Hid (∀ j u, (textV L)[j]? = some u → (w.alloc (.cells (madeCells #[.string ByteArray.empty] n) 9)).cell? ((⟨q, o, none⟩ : Addr).add j) = some u) := hide (fun j u hj => by have h1 := HNw.out j u hj; rw [Addr.add_mid] at h1 ⊢; exact (hbS.cell (p := ⟨q, o + j, none⟩) hq).trans h1)
  have hqW : q < (w.alloc (.cells (madeCells #[.string ByteArray.empty] n) 9)).heap.size := by simp; omega
  have hWs := hbS.size
  generalize w.alloc (.cells (madeCells #[.string ByteArray.empty] n) 9) = W at *
  clear hmk HNw
  go_wp2_with (at_builtin; refine wpList_append_lies _ rfl (.tmp 13) (.tmp 14) 27 rfl w.heap.size 9 j0 (.string ByteArray.empty) 1 16 Try.underlying27 gi gz0 gz1 gz2 rfl (by decide) _ _ _ rfl hst ⟨q, o, none⟩ n cap (textV L) rfl (by rw [hlen]; omega) HNw2.out (textV_one L) (by omega) (by unfold maxLen; omega) (by omega) (by omega) W.heap.size rfl ?_)
  intro g4 k4 w4 hown4 hgr4 hat4 hlt4
  have hb4 : Below w.heap.size W w4 := below_ownS hst hgr4 hWs
  have hbw4 : Below w.heap.size w w4 := hbS.trans hb4
  have hown4' : w4.ownsRow w.heap.size 9 1 (.slice (some ⟨g4, 0, none⟩) n k4) n (textV L) := hown4
  have hg4 := hown4'.lt g4 rfl
  clear hgr4 hat4 hown4 hst hbS hb4 HNw2 hqW hWs
  go_wp2_with fail
  refine (from_any _ _).mono ?_
  rintro e w5 ⟨rfl, h5⟩
  have hdr : w5.heap[w4.heap.size]? = some (.cells #[.int .i64 (x0 : Int)] 115 (0, 0)) := by rw [h5]; exact heap_alloc_new w4 _
  have hown5 : w5.ownsRow w.heap.size 9 1 (.slice (some ⟨g4, 0, none⟩) n k4) n (textV L) := by rw [h5]; exact hown4'.alloc _
  have hb5 : Below w.heap.size w w5 := by rw [h5]; exact hbw4.alloc hbw4.size _
  have hbs4 := hbw4.size
  clear h5 hbw4 hown4'
  go_wp2_with fail
  go_loopw [7] (fun iv wr => ∃ (i x : Nat) (A : List ByteArray), i < n ∧ x ≤ 65536 ∧ A.length = n ∧ iv = .int .i64 (i : Int) ∧ mixFrom ByteArray.empty x A i = mixFrom ByteArray.empty x0 L (n - 1) ∧ wr.ownsRow w.heap.size 9 1 (.slice (some ⟨g4, 0, none⟩) n k4) n (textV A) ∧ wr.heap[w4.heap.size]? = some (.cells #[.int .i64 (x : Int)] 115 (0, 0)) ∧ Below w.heap.size w wr) (fun iv _ => (intOf iv).toNat)
  case atStart => exact ⟨n - 1, x0, L, by omega, hx0, hLn.out.symm, by congr 1; omega, rfl, hown5, hdr, hb5⟩
  case round =>
    clear hown5 hdr hb5
    obtain ⟨i, x, A, hi, hx, hA, rfl, hmix, hown, hdr, hbr⟩ := hrel
    have Hmix := hide hmix
    have HA := hide hA
    clear hmix
    by_cases hi1 : 1 ≤ i
    · have hd : nxt x % (i + 1) < i + 1 := Nat.mod_lt _ (by omega)
      have hnx : nxt x ≤ 65536 := by unfold nxt; omega
      have hm2 : mixFrom ByteArray.empty x A i = mixFrom ByteArray.empty (nxt x) (swapL A ByteArray.empty i (nxt x % (i + 1))) (i - 1) := by
        obtain ⟨m, rfl⟩ : ∃ m, i = m + 1 := ⟨i - 1, by omega⟩
        rfl
      have Hm2 := hide hm2
      clear hm2
      have hbe := fun W (h : W.heap[w4.heap.size]? = some (.cells #[.int .i64 (x : Int)] 115 (0, 0))) => below_bignat w4.heap.size x (i + 1) W (by omega) (by omega) h
      rw [show ((i + 1 : Nat) : Int) = (i : Int) + 1 by omega] at hbe
      have i0 : (0 : Int) < (i : Int) := by omega
      generalize nxt x = y at *
      generalize hdd : y % (i + 1) = d at *
      have Hdd := hide hdd
      clear hdd
      go_wp2_with fail
      refine (hbe _ hdr).mono ?_
      rintro e w6 ⟨rfl, h6⟩
      have hdr6 : w6.heap[w4.heap.size]? = some (.cells #[.int .i64 (y : Int)] 115 (0, 0)) := by
        rw [h6, heap_setCell_same wr w4.heap.size 0 _ _ _ hdr]; rfl
      have hown6 : w6.ownsRow w.heap.size 9 1 (.slice (some ⟨g4, 0, none⟩) n k4) n (textV A) := by
        rw [h6]; exact owns_of_block hown (fun k hk => heap_setCell_other _ _ _ _ (by simp [Value.ownBlock] at hk; show k ≠ w4.heap.size; omega))
      have hb6 : Below w.heap.size w w6 := by rw [h6]; exact hbr.setCell (p := ⟨w4.heap.size, 0, none⟩) hbs4 _
      clear h6 hown hdr hbr hbe
      have c0 := owns_at hown6 (i := i) (by omega) hA
      have c1 := owns_at hown6 (i := d) (by omega) hA
      have f0 := hown6.frozenAt i
      have hend := owns_swap hown6 i d
      have hlen2 := swapL_length A ByteArray.empty i d
      have hst1 := hown6.stored i (.string (A.getD d ByteArray.empty))
      obtain ⟨u, c2⟩ : ∃ u, (w6.setCell ⟨g4, i, none⟩ (.string (A.getD d ByteArray.empty))).cell? ⟨g4, d, none⟩ = some u := ⟨_, by
        have h := hst1.1
        rw [textV_set] at h
        exact owns_at h (by omega) (by rw [List.length_set]; exact hA)⟩
      have f2 := hst1.1.frozenAt d
      have hdrE : ((w6.setCell ⟨g4, i, none⟩ (.string (A.getD d ByteArray.empty))).setCell ⟨g4, d, none⟩ (.string (A.getD i ByteArray.empty))).heap[w4.heap.size]? = some (.cells #[.int .i64 (y : Int)] 115 (0, 0)) := by
        rw [heap_setCell_other _ _ _ _ (by show w4.heap.size ≠ g4; omega), heap_setCell_other _ _ _ _ (by show w4.heap.size ≠ g4; omega)]; exact hdr6
      have hbE := (hb6.setCell (p := ⟨g4, i, none⟩) hg4.1 (.string (A.getD d ByteArray.empty))).setCell (p := ⟨g4, d, none⟩) hg4.1 (.string (A.getD i ByteArray.empty))
      rw [hA] at hlen2
      generalize swapL A ByteArray.empty i d = A2 at *
      generalize A.getD i ByteArray.empty = ai at *
      generalize A.getD d ByteArray.empty = ad at *
      have i1 : (0 : Int) ≤ (i : Int) := by omega
      have i2 : (i : Int) < (n : Int) := by omega
      have i3 : (0 : Int) ≤ (d : Int) := by omega
      have i4 : (d : Int) < (n : Int) := by omega
      clear hst1 hown6 hdr6 hb6 hA
      go_wp2_with fail
      go_roundw
      case rel =>
        refine ⟨i - 1, y, A2, by omega, hnx, hlen2, ?_, ?_, hend, hdrE, hbE⟩
        · show Value.int .i64 _ = Value.int .i64 _
          congr 1
          omega
        · rw [← Hmix.out, Hm2.out]
      case measure => simp [intOf]; omega
    · have hAe : A = mixFrom ByteArray.empty x0 L (n - 1) := by
        have := Hmix.out
        rw [show i = 0 by omega] at this
        exact this
      have i0 : ¬ (0 : Int) < (i : Int) := by omega
      rw [hAe] at hown
      clear hAe Hmix HA hA hi1
      go_wp2_with fail
      go_ret
      exact ⟨_, rfl, hown, hbr⟩

end Go.Proofs.Ytnjaofkieajnlab

/- The program's large objects: the sheets of all parts. -/
namespace Go.Proofs.Ytnjaofkieajnlab
open Go.RowKit

theorem run_make_mul (a b : Nat) (hn : a * b ≤ 1000000) (w : World) : (Instr.makeSlice 27 (.int .i64 0) (.int .i64 ((a : Int) * (b : Int)))).run Try.prog w = .ok (.slice (some ⟨w.heap.size, 0, none⟩) 0 (a * b)) (w.alloc (.cells (madeCells #[.string ByteArray.empty] (a * b)) 9)) := by
  have h := run_make_texts (a * b) hn w
  rw [show ((a * b : Nat) : Int) = (a : Int) * (b : Int) by simp] at h
  exact h

set_option maxRecDepth 100000 in
set_option maxHeartbeats 8000000 in
theorem lsheets_any (K M O S z : Nat) (t : ByteArray) (c : Nat) (v : Value) (w : World) (h : SpecOk K M O S z) (h3 : 3 ≤ K * z) (hc : c = partsN t (K * z - 2)) (hc2 : c ≤ 20) (hL : TextsAt w v (cutL t (K * z - 2) c)) :
    Calls Try.prog 56 #[specV K M O S, .int .i64 (z : Int), v] w fun e w' => ∃ v', e = .returned (.tuple #[v', .int .i64 0]) ∧ w'.ownsRow w.heap.size 9 1 v' (c * (K + M)) (textV (sheetsTo K M O S z c t c)) ∧ Below w.heap.size w w' := by
  obtain ⟨hK, hM, hO, hS, hz⟩ := h
  obtain ⟨n, hn⟩ : ∃ n, n = K * z - 2 := ⟨_, rfl⟩
  have hn1 : 1 ≤ n := by omega
  have hc1 : 1 ≤ c := by rw [hc]; exact partsN_pos t _ (by omega)
  have hse := fun p (hp : p < c) W => osend_ok K M O S z (partT t n p) W hK hM hO hS hz (by have := (partT_in t n p hn1 (by rw [hn, ← hc]; exact hp)).2; omega)
  have hsz : ∀ p, p < c → (partT t n p).size + 2 ≤ K * z := fun p hp => by have := (partT_in t n p hn1 (by rw [hn, ← hc]; exact hp)).2; omega
  have hst : ∀ p, sheetsTo K M O S z c t (p + 1) = sheetsTo K M O S z c t p ++ sheetTo p c (packTo K M O S z (objWord K M O S z (partT t n p)) (K + M)) (K + M) := fun p => by
    show sheetsTo K M O S z c t p ++ sheetTo p c (partL K M O S z t p) (K + M) = _
    unfold partL
    rw [← hn]
  have hlen := fun p => sheetsTo_length K M O S z c t p
  obtain ⟨ao, cap, rfl, hcap, hT⟩ := hL
  rw [cutL_length] at hcap hT ⊢
  rw [← hn] at hT
  have hT2 : ∀ k, k < c → ∃ q o, ao = some ⟨q, o, none⟩ ∧ q < w.heap.size ∧ w.cell? ⟨q, o + k, none⟩ = some (.string (partT t n k)) := fun k hk => by
    obtain ⟨q, o, e1, e2, e3⟩ := hT k hk
    exact ⟨q, o, e1, e2, by rw [e3, cutL_getD _ _ _ _ hk]⟩
  have hcb : c * (K + M) ≤ 800 := Nat.le_trans (Nat.mul_le_mul hc2 (show K + M ≤ 40 by omega)) (by decide)
  have hmk := run_make_mul c (K + M) (by omega)
  rw [show ((K + M : Nat) : Int) = (K : Int) + (M : Int) by omega] at hmk
  have m1 : 0 ≤ (c : Int) * ((K : Int) + (M : Int)) := Int.mul_nonneg (by omega) (by omega)
  have m2 : (c : Int) * ((K : Int) + (M : Int)) ≤ 800 := by
    have : (c : Int) * ((K : Int) + (M : Int)) = ((c * (K + M) : Nat) : Int) := by simp
    omega
  have HT := hide hT2
  have Hst := hide hst
  have Hlen := hide hlen
  clear hT hT2 hst hlen hn hc
  obtain ⟨j0, gi, gz0, gz1, gz2⟩ := info_parts Try.infoText
  have hsp : (w.alloc (specB K M O S)).heap[w.heap.size]? = some (specB K M O S) := heap_alloc_new w _
  have hbA : Below w.heap.size w (w.alloc (specB K M O S)) := (Below.refl _ _).alloc (Nat.le_refl _) _
  have hcell : ∀ k, k < c → ∃ q o, ao = some ⟨q, o, none⟩ ∧ q < w.heap.size := fun k hk => by
    obtain ⟨q, o, e1, e2, _⟩ := HT.out k hk
    exact ⟨q, o, e1, e2⟩
  obtain ⟨q, o, rfl, hq⟩ := hcell 0 (by omega)
  clear hcell
  obtain ⟨c0, c1, _, _⟩ := spec_cells hsp
  go_enter Try.func56, Try.ntmps56
  generalize hWA : w.alloc (specB K M O S) = WA at *
  have hsA : w.heap.size < WA.heap.size := (Array.getElem?_eq_some_iff.1 hsp).1
  go_upto_region 2 with fail
  have hst0 : (WA.alloc (.cells (madeCells #[.string ByteArray.empty] (c * (K + M))) 9)).ownsRow (w.heap.size + 1) 9 1 (.slice (some ⟨WA.heap.size, 0, none⟩) 0 (c * (K + M))) 0 (textV (sheetsTo K M O S z c t 0)) := World.ownsRow_made (base := w.heap.size + 1) (e := 9) (size := 1) WA (madeCells #[.string ByteArray.empty] (c * (K + M))) (c * (K + M)) (by omega) (by unfold maxLen; omega) (by simp [size_madeCells])
  have hbS : Below w.heap.size w (WA.alloc (.cells (madeCells #[.string ByteArray.empty] (c * (K + M))) 9)) := hbA.alloc hbA.size _
  have hsS : (WA.alloc (.cells (madeCells #[.string ByteArray.empty] (c * (K + M))) 9)).heap[w.heap.size]? = some (specB K M O S) := by rw [heap_alloc_old _ _ hsA]; exact hsp
  generalize WA.alloc (.cells (madeCells #[.string ByteArray.empty] (c * (K + M))) 9) = WB at *
  clear hmk m1 m2 hsp hbA c0 c1 hWA hsA
  go_wp2_with fail
  go_loopw [8, 27] (fun av pv wr => ∃ p : Nat, p ≤ c ∧ pv = .int .i64 (p : Int) ∧ wr.ownsRow (w.heap.size + 1) 9 1 av (sheetsTo K M O S z c t p).length (textV (sheetsTo K M O S z c t p)) ∧ wr.heap[w.heap.size]? = some (specB K M O S) ∧ Below w.heap.size w wr) (fun _ pv _ => c - (intOf pv).toNat)
  case atStart => exact ⟨0, Nat.zero_le _, rfl, hst0, hsS, hbS⟩
  case round =>
    clear hst0 hsS hbS
    obtain ⟨p, hpc, rfl, hown, hsr, hbr⟩ := hrel
    have hszr : w.heap.size < wr.heap.size := (Array.getElem?_eq_some_iff.1 hsr).1
    have hlp := Hlen.out p
    have hlb : (sheetsTo K M O S z c t p).length ≤ 800 := by rw [hlp]; exact Nat.le_trans (Nat.mul_le_mul (show p ≤ 20 by omega) (show K + M ≤ 40 by omega)) (by decide)
    clear hlp
    by_cases hlt : p < c
    · have hs := hse p hlt
      obtain ⟨q', o', e1, _, ht0⟩ := HT.out p hlt
      simp only [Option.some.injEq, Addr.mk.injEq, and_true] at e1
      obtain ⟨rfl, rfl⟩ := e1
      have ht1 := (hbr.cell (p := ⟨q, o + p, none⟩) hq).trans ht0
      have hstp := Hst.out p
      have hLl := packTo_length K M O S z (objWord K M O S z (partT t n p)) (K + M)
      have hLs := fun i (hi : i < K + M) => packTo_sizes (K := K) (M := M) (O := O) (S := S) (z := z) (o := partT t n p) (hsz p hlt) hi
      generalize packTo K M O S z (objWord K M O S z (partT t n p)) (K + M) = L at *
      generalize partT t n p = pt at *
      have Hstp := hide hstp
      clear hstp ht0
      obtain ⟨c0, c1, c2, c3⟩ := spec_cells hsr
      obtain ⟨all0, hall0⟩ : ∃ l, l = sheetsTo K M O S z c t p := ⟨_, rfl⟩
      rw [← hall0] at hown hlb Hstp
      clear hall0
      have i1 : (0 : Int) ≤ (p : Int) := by omega
      have i2 : (p : Int) < (c : Int) := by omega
      go_wp2_with fail
      refine (hs _).mono ?_
      rintro e w3 ⟨v3, rfl, hown3, hb3⟩
      obtain ⟨g, gcap, rfl, hg, hgl⟩ := hown3.form (by omega)
      have hTc : ∀ k, k < K + M → w3.cell? ⟨g, k, none⟩ = some (.string (L.getD k ByteArray.empty)) := fun k hk => by
        have := hown3.cells (g := g) rfl k (.string (L.getD k ByteArray.empty)) (by unfold textV; rw [List.getElem?_map, List.getElem?_eq_getElem (by omega), List.getD_eq_getElem?_getD, List.getElem?_eq_getElem (by omega)]; rfl)
        rwa [Addr.add_mid, Nat.zero_add] at this
      have hown4 : w3.ownsRow (w.heap.size + 1) 9 1 u8 all0.length (textV all0) := owns_below hown hb3
      have hs3 : w3.heap[w.heap.size]? = some (specB K M O S) := block_on hsr hb3
      have hbr3 : Below w.heap.size w w3 := hbr.trans (hb3.mono hbr.size)
      have hub : ∀ k, u8.ownBlock = some k → w.heap.size + 1 ≤ k ∧ k < g := fun k hk => by
        have h1 := hown.lt k hk
        have h2 : wr.heap.size ≤ g := hg
        omega
      have hsz3 : wr.heap.size ≤ w3.heap.size := hb3.size
      obtain ⟨ob, hob⟩ : ∃ ob, ob = u8.ownBlock := ⟨_, rfl⟩
      rw [← hob] at hub
      have HTc := hide hTc
      have HLs := hide hLs
      clear hTc hLs c0 c1 c2 c3 hown3 hb3 hown hsr hbr hs ht1
      go_wp2_with fail
      go_loopw [8, 44] (fun av iv wi => ∃ i : Nat, i ≤ K + M ∧ iv = .int .i64 (i : Int) ∧ wi.ownsRow (w.heap.size + 1) 9 1 av (all0.length + i) (textV (all0 ++ sheetTo p c L i)) ∧ (∀ k, av.ownBlock = some k → ob = some k ∨ w3.heap.size ≤ k) ∧ Chg (fun k => ob = some k) w3 wi) (fun _ iv _ => K + M - (intOf iv).toNat)
      case atStart => exact ⟨0, Nat.zero_le _, rfl, by show w3.ownsRow _ _ _ _ _ (textV (all0 ++ [])); rw [List.append_nil]; exact hown4, fun k hk => Or.inl (by rw [hob]; exact hk), Chg.refl _ _⟩
      case round =>
        clear hown4 hob
        obtain ⟨i, hi, rfl, hown, hav, hcg⟩ := hrel
        have hwis := hcg.size
        by_cases hil : i < K + M
        · have ht1 := (hcg.cell (a := ⟨g, i, none⟩) hgl (fun e => by have := hub g e; omega)).trans (HTc.out i hil)
          have hls := HLs.out i hil
          have hsn : all0 ++ sheetTo p c L (i + 1) = (all0 ++ sheetTo p c L i) ++ [sheetB p c (L.getD i ByteArray.empty)] := by rw [List.append_assoc]; rfl
          have Hsn := hide hsn
          clear hsn
          generalize L.getD i ByteArray.empty = pk at *
          have hpk : pk.size ≤ 25 := by omega
          have htx := fun W => ltext_any p c pk W (by omega) (by omega) (by omega)
          clear hls
          generalize sheetB p c pk = T at *
          have i1 : (0 : Int) ≤ (i : Int) := by omega
          have i2 : (i : Int) < (K : Int) + (M : Int) := by omega
          go_wp2_with fail
          refine (htx _).mono ?_
          rintro e w6 ⟨rfl, hb6⟩
          have hown6 := owns_below hown hb6
          have hw6 := hb6.size
          have hcg6 : Chg (fun k => ob = some k) w3 w6 := hcg.trans (Chg.of_below hb6 _) (fun _ _ s => s)
          clear htx ht1 hown hcg
          go_wp2_with (at_builtin; refine wpList_append_lies _ rfl (.tmp 53) (.tmp 55) 27 rfl (w.heap.size + 1) 9 j0 (.string ByteArray.empty) 1 16 Try.underlying27 gi gz0 gz1 gz2 rfl (by decide) _ _ _ rfl (hown6.alloc _) ⟨w6.heap.size, 0, none⟩ 1 1 [.string T] rfl rfl (one_news _ _ _) (one_oneCell rfl) (by decide) (by unfold maxLen; omega) (by omega) (by simp; omega) (w6.heap.size + 1) (by simp) ?_)
          intro g5 cap5 w5 hown5 hgr5 hat5 hlt5
          have hgr := grownBy_of_alloc hgr5
          have hcg5 : Chg (fun k => ob = some k) w3 w5 := hcg6.grown hgr (fun k e => by
            rcases hav k e with h | h
            · exact Or.inr h
            · exact Or.inl h)
          have hav5 : ∀ k, (Value.slice (some ⟨g5, 0, none⟩) (all0.length + i + 1) cap5).ownBlock = some k → ob = some k ∨ w3.heap.size ≤ k := fun k hk => by
            have hk' : g5 = k := by simpa [Value.ownBlock] using hk
            rcases hat5 with h | h
            · exact hav k (by rw [h, hk'])
            · right; omega
          clear hown6 hcg6 hgr5 hgr hat5 hav
          go_wp2_with fail
          go_roundw
          case rel => exact ⟨i + 1, by omega, by go_num, by rw [Hsn.out, textV_append]; exact hown5, hav5, hcg5⟩
          case measure => simp [intOf]; omega
        · have hii : i = K + M := by omega
          have hbwi : Below w.heap.size w wr := chg_under2 hbr3 hcg (fun k e => by have := hub k e; omega)
          have hsi : wr.heap[w.heap.size]? = some (specB K M O S) := (hcg.block _ (by omega) (fun e => by have := hub _ e; omega)).trans hs3
          rw [hii, ← Hstp.out] at hown
          have hlen2 : all0.length + (K + M) = (sheetsTo K M O S z c t (p + 1)).length := by rw [Hstp.out, List.length_append, sheetTo_length]
          rw [hlen2] at hown
          clear hlen2
          have i5 : ¬ (i : Int) < (K : Int) + (M : Int) := by omega
          clear hcg hii hav hi hil
          go_wp2_with fail
          go_roundw
          case rel => exact ⟨p + 1, by omega, by go_num, hown, hsi, hbwi⟩
          case measure => simp [intOf]; omega
    · have hpc2 : p = c := by omega
      have i5 : ¬ (p : Int) < (c : Int) := by omega
      have hlp := Hlen.out p
      have hown9 : wr.ownsRow w.heap.size 9 1 u8 (c * (K + M)) (textV (sheetsTo K M O S z c t c)) := by
        rw [hlp, hpc2] at hown
        exact owns_low hown (Nat.le_succ _)
      clear hown hlp hlb hpc2 Hlen Hst
      go_wp2_with fail
      go_ret2
      exact ⟨_, rfl, hown9, hbr⟩

end Go.Proofs.Ytnjaofkieajnlab
