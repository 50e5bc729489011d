/- Texts of the proof, part 4. -/
import Derived.Test.YtnjaofkieajnlaaGreatAlluptoG2

/- Boxes that hold pieces of a word. Nothing of the program. -/
namespace Go.Proofs.YtnjaofkieajnlaaGreat

/-- A word's pieces, place by place. -/
abbrev pvec (P : List ByteArray) : Nat → Vec := fun j => byteAt (P.getD j ByteArray.empty)

structure IsWord (K M O S z : Nat) (P : List ByteArray) : Prop where
  len : P.length = K + M
  size : ∀ x ∈ P, x.size = z
  fit : ∀ i, i < M → sumB P (rowOf K M O S i) z = zeroB z

theorem IsWord.at_size {K M O S z : Nat} {P : List ByteArray} (h : IsWord K M O S z P) {i : Nat} (hi : i < K + M) : (P.getD i ByteArray.empty).size = z :=
  h.size _ (by rw [List.getD_eq_getElem?_getD, List.getElem?_eq_getElem (by rw [h.len]; exact hi)]; exact List.getElem_mem _)

/-- All that is known is the word's. -/
structure WKn (K M O S z : Nat) (P : List ByteArray) (kn : Kn) : Prop where
  ok : KnOk K z kn
  meets : Meets (pvec P) (K + M) (KA kn)

theorem WKn.new (K M O S z : Nat) (P : List ByteArray) : WKn K M O S z P kn0 := ⟨kn0_ok K z, fun f hf => by rw [KA, KB_kn0] at hf; simp at hf⟩

/-- What is left of a piece of the word is the word's. -/
theorem WKn.left {K M O S z : Nat} {P : List ByteArray} {kn : Kn} (h : WKn K M O S z P kn) (hw : IsWord K M O S z P) {i : Nat} (hi : i < K + M) : evTo (pvec P) (left kn (ofs K M O S i) (P.getD i ByteArray.empty)).1 (K + M) = byteAt (left kn (ofs K M O S i) (P.getD i ByteArray.empty)).2 := by
  have hl := left_ok h.ok (ofs K M O S i) _ (hw.at_size hi)
  have h1 := h.meets.span hl.span
  rw [evTo_xor, word_of K M O S z P hw.len hw.size hw.fit i hi] at h1
  have h2 : vx (byteAt (P.getD i ByteArray.empty)) (vx (byteAt (P.getD i ByteArray.empty)) (evTo (pvec P) (Go.Proofs.YtnjaofkieajnlaaGreat.left kn (ofs K M O S i) (P.getD i ByteArray.empty)).1 (K + M))) = vx (byteAt (P.getD i ByteArray.empty)) (vx (byteAt (P.getD i ByteArray.empty)) (byteAt (Go.Proofs.YtnjaofkieajnlaaGreat.left kn (ofs K M O S i) (P.getD i ByteArray.empty)).2)) := by rw [h1]
  rwa [← vx_assoc, ← vx_assoc, vx_self, vx_comm v0, vx_comm v0, vx_zero, vx_zero] at h2

theorem WKn.nought {K M O S z : Nat} {P : List ByteArray} {kn : Kn} (h : WKn K M O S z P kn) (hw : IsWord K M O S z P) {i : Nat} (hi : i < K + M) (h0 : (Go.Proofs.YtnjaofkieajnlaaGreat.left kn (ofs K M O S i) (P.getD i ByteArray.empty)).1 = 0) : (Go.Proofs.YtnjaofkieajnlaaGreat.left kn (ofs K M O S i) (P.getD i ByteArray.empty)).2 = zeroB z := by
  have h1 := h.left hw hi
  rw [h0, evTo_zero] at h1
  exact vec_inj (by rw [(left_ok h.ok _ _ (hw.at_size hi)).size, zeroB_size]) (by rw [← h1, vec_zeroB])

theorem WKn.put {K M O S z : Nat} {P : List ByteArray} {kn : Kn} (h : WKn K M O S z P kn) (hw : IsWord K M O S z P) (hK : K ≤ 20) {i : Nat} (hi : i < K + M) : WKn K M O S z P (putK kn (ofs K M O S i) (P.getD i ByteArray.empty)) := by
  refine ⟨putK_ok h.ok hK (hw.at_size hi) (ofs_lt K M O S i), fun f hf => ?_⟩
  unfold putK at hf
  by_cases e : (Go.Proofs.YtnjaofkieajnlaaGreat.left kn (ofs K M O S i) (P.getD i ByteArray.empty)).1 = 0
  · rw [if_pos e] at hf; exact h.meets f hf
  · rw [if_neg e] at hf
    obtain ⟨j, hj, rfl, hj0⟩ := KB_mem hf
    by_cases ej : j = (Go.Proofs.YtnjaofkieajnlaaGreat.left kn (ofs K M O S i) (P.getD i ByteArray.empty)).1.log2
    · simp only [if_pos ej]; exact h.left hw hi
    · simp only [if_neg ej] at hj0 ⊢
      exact h.meets _ (KB_has hj hj0)

/-- What follows is the word's. -/
theorem WKn.get {K M O S z : Nat} {P : List ByteArray} {kn : Kn} (h : WKn K M O S z P kn) (hw : IsWord K M O S z P) {i : Nat} (hi : i < K + M) (h0 : (Go.Proofs.YtnjaofkieajnlaaGreat.left kn (ofs K M O S i) (zeroB z)).1 = 0) : (Go.Proofs.YtnjaofkieajnlaaGreat.left kn (ofs K M O S i) (zeroB z)).2 = P.getD i ByteArray.empty := by
  have hl := left_ok h.ok (ofs K M O S i) _ (zeroB_size z)
  have h1 := hl.span
  rw [h0, Nat.xor_zero, vec_zeroB, vx_comm, vx_zero] at h1
  have h2 := h.meets.span h1
  rw [word_of K M O S z P hw.len hw.size hw.fit i hi] at h2
  exact vec_inj (by rw [hl.size, hw.at_size hi]) h2.symm

/-- Which piece is left over hangs on the bits alone. -/
theorem left_zero {K z : Nat} {kn : Kn} (h : KnOk K z kn) (x : Nat) {p q : ByteArray} (hp : p.size = z) (hq : q.size = z) : (left kn x p).1 = 0 ↔ (left kn x q).1 = 0 :=
  (left_ok h x p hp).zero.trans (left_ok h x q hq).zero.symm

/-- The raw number of a place. -/
def placeOf (n : Nat) (c : Int) : Nat := ((if c < 0 then -(c + 1) else c) % (n : Int)).toNat

theorem placeOf_lt (n : Nat) (c : Int) (hn : 0 < n) : placeOf n c < n := by
  unfold placeOf
  have h1 := Int.emod_nonneg (if c < 0 then -(c + 1) else c) (show (n : Int) ≠ 0 by omega)
  have h2 := Int.emod_lt_of_pos (if c < 0 then -(c + 1) else c) (show 0 < (n : Int) by omega)
  omega

/-- What is known behind the first k of some places' pieces. -/
def fillTo (K M O S : Nat) (P : List ByteArray) (l : List Int) : Nat → Kn
  | 0 => kn0
  | k + 1 => putK (fillTo K M O S P l k) (ofs K M O S (placeOf (K + M) (l.getD k 0))) (P.getD (placeOf (K + M) (l.getD k 0)) ByteArray.empty)

theorem fillTo_ok {K M O S z : Nat} {P : List ByteArray} (hw : IsWord K M O S z P) (hK : 1 ≤ K ∧ K ≤ 20) (l : List Int) (k : Nat) : WKn K M O S z P (fillTo K M O S P l k) := by
  induction k with
  | zero => exact WKn.new K M O S z P
  | succ k ih => exact ih.put hw hK.2 (placeOf_lt _ _ (by omega))

/-- What was put in follows. -/
theorem fillTo_has {K M O S z : Nat} {P : List ByteArray} (hw : IsWord K M O S z P) (hK : 1 ≤ K ∧ K ≤ 20) (l : List Int) (n : Nat) : ∀ k, k < n → sp ((KA (fillTo K M O S P l n)).map Prod.fst) (ofs K M O S (placeOf (K + M) (l.getD k 0))) := by
  induction n with
  | zero => intro k hk; omega
  | succ n ih =>
    intro k hk
    have hok := fillTo_ok hw hK l n
    have hpl := placeOf_lt (K + M) (l.getD n 0) (by omega)
    by_cases e : k = n
    · subst e
      exact (sp_iff _ _).2 ⟨_, putK_has hok.ok hK.2 (hw.at_size hpl) (ofs_lt K M O S _) (fun h0 => hok.nought hw hpl h0)⟩
    · obtain ⟨v, hv⟩ := (sp_iff _ _).1 (ih k (by omega))
      exact (sp_iff _ _).2 ⟨v, putK_keeps hok.ok hK.2 (hw.at_size hpl) (ofs_lt K M O S _) hv⟩

/-- Another piece than the one that follows is refused. -/
theorem WKn.other {K M O S z : Nat} {P : List ByteArray} {kn : Kn} (h : WKn K M O S z P kn) (hw : IsWord K M O S z P) {i : Nat} (hi : i < K + M) {q : ByteArray} (hq : q.size = z) (hne : q ≠ P.getD i ByteArray.empty) (h0 : (Go.Proofs.YtnjaofkieajnlaaGreat.left kn (ofs K M O S i) q).1 = 0) : (Go.Proofs.YtnjaofkieajnlaaGreat.left kn (ofs K M O S i) q).2 ≠ zeroB z := by
  intro e
  have hl := left_ok h.ok (ofs K M O S i) _ hq
  have h1 := hl.span
  rw [h0, Nat.xor_zero, e, vec_zeroB, vx_zero] at h1
  have h2 := h.meets.span h1
  rw [word_of K M O S z P hw.len hw.size hw.fit i hi] at h2
  exact hne (vec_inj (by rw [hq, hw.at_size hi]) h2.symm)

/-- Where nothing follows, whatever is put in is got. -/
theorem put_get {K z : Nat} {kn : Kn} (h : KnOk K z kn) (hK : K ≤ 20) {x : Nat} (hx : x < 2 ^ K) {q : ByteArray} (hq : q.size = z) (h0 : (left kn x q).1 ≠ 0) : (left (putK kn x q) x (zeroB z)).1 = 0 ∧ (left (putK kn x q) x (zeroB z)).2 = q := by
  have hs := putK_has h hK hq hx (fun e => absurd e h0)
  have hok := putK_ok h hK hq hx
  have hl := left_ok hok x (zeroB z) (zeroB_size z)
  have hz : (left (putK kn x q) x (zeroB z)).1 = 0 := hl.zero.2 ((sp_iff _ _).2 ⟨_, hs⟩)
  refine ⟨hz, ?_⟩
  have h1 := hl.span
  rw [hz, Nat.xor_zero, vec_zeroB, vx_comm, vx_zero] at h1
  exact vec_inj (by rw [hl.size, hq]) ((ech_sound (KB_ech hok 20)).one h1 hs)

/-- All places follow just where none is missing. -/
theorem all_follow {K M O S z : Nat} {kn : Kn} (h : KnOk K z kn) (hK : K ≤ 20) (hM : 1 ≤ M) : (∀ i, i < K + M → (left kn (ofs K M O S i) (zeroB z)).1 = 0) ↔ openK kn K = 0 := by
  constructor
  · intro ha
    refine open_some h hK (fun j hj => ?_)
    have := (left_ok h (ofs K M O S j) (zeroB z) (zeroB_size z)).zero.1 (ha j (by omega))
    rwa [ofs_data K M O S j hj] at this
  · intro h0 i _
    exact (left_ok h (ofs K M O S i) (zeroB z) (zeroB_size z)).zero.2 (open_none h hK h0 (ofs_lt K M O S i))

end Go.Proofs.YtnjaofkieajnlaaGreat
