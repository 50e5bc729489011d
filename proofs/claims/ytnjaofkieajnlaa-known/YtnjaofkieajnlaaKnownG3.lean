/- Texts of the proof, part 4. -/
import Derived.Test.YtnjaofkieajnlaaKnownG2

/- Of which data each piece is the sum; the document's facts against the program's known sums. Nothing of the program. -/
namespace Go.Proofs.Ytnjaofkieajnlaa

/-- The sum of a table's numbers at some places. -/
def xfold (T : Nat → Nat) (row : List Nat) : Nat := row.foldl (fun b n => b ^^^ T n) 0

theorem xfold_from (T : Nat → Nat) (row : List Nat) (b : Nat) : row.foldl (fun b n => b ^^^ T n) b = b ^^^ xfold T row := by
  induction row generalizing b with
  | nil => simp [xfold]
  | cons n row ih =>
    show row.foldl _ (b ^^^ T n) = b ^^^ (row.foldl _ (0 ^^^ T n))
    rw [ih, ih (0 ^^^ T n), Nat.zero_xor, Nat.xor_assoc]

theorem xfold_cons (T : Nat → Nat) (n : Nat) (row : List Nat) : xfold T (n :: row) = T n ^^^ xfold T row := by
  show row.foldl _ (0 ^^^ T n) = _
  rw [xfold_from, Nat.zero_xor]

theorem xfold_congr {T U : Nat → Nat} {row : List Nat} (h : ∀ n ∈ row, T n = U n) : xfold T row = xfold U row := by
  induction row with
  | nil => rfl
  | cons n row ih => rw [xfold_cons, xfold_cons, h n (by simp), ih (fun k hk => h k (List.mem_cons_of_mem _ hk))]

theorem xfold_snoc (T : Nat → Nat) (row : List Nat) (n : Nat) : xfold T (row ++ [n]) = xfold T row ^^^ T n := by
  unfold xfold; rw [List.foldl_append]; rfl

theorem xfold_lt {T : Nat → Nat} {K : Nat} {row : List Nat} (h : ∀ n, T n < 2 ^ K) : xfold T row < 2 ^ K := by
  induction row with
  | nil => exact Nat.two_pow_pos K
  | cons n row ih => rw [xfold_cons]; exact Nat.xor_lt_two_pow (h n) ih

/-- The sum of the pieces of a row that stand ahead of its last, as far as place k. -/
def ofRow (T : Nat → Nat) (last : Nat) (row : List Nat) : Nat := row.foldl (fun b n => if n < last then b ^^^ T n else b) 0

theorem ofRow_take (T : Nat → Nat) (last : Nat) (row : List Nat) (k : Nat) (h : k < row.length) : ofRow T last (row.take (k + 1)) = if row.getD k 0 < last then ofRow T last (row.take k) ^^^ T (row.getD k 0) else ofRow T last (row.take k) := by
  unfold ofRow
  rw [List.take_succ_eq_append_getElem h, List.foldl_append, List.getD_eq_getElem?_getD, List.getElem?_eq_getElem h]; rfl

theorem ofRow_lt {T : Nat → Nat} {K last : Nat} {row : List Nat} (h : ∀ n, T n < 2 ^ K) : ofRow T last row < 2 ^ K := by
  have : ∀ (row : List Nat) (b : Nat), b < 2 ^ K → row.foldl (fun b n => if n < last then b ^^^ T n else b) b < 2 ^ K := by
    intro row
    induction row with
    | nil => intro b hb; exact hb
    | cons n row ih =>
      intro b hb
      simp only [List.foldl_cons]
      refine ih _ ?_
      split
      · exact Nat.xor_lt_two_pow hb (h n)
      · exact hb
  exact this row 0 (Nat.two_pow_pos K)

theorem ofRow_head (T : Nat → Nat) (last : Nat) (head : List Nat) (h : ∀ n ∈ head, n < last) : ofRow T last (head ++ [last]) = xfold T head := by
  unfold ofRow xfold
  rw [List.foldl_append]
  simp only [List.foldl_cons, List.foldl_nil, Nat.lt_irrefl, if_false]
  have : ∀ (row : List Nat) (b : Nat), (∀ n ∈ row, n < last) → row.foldl (fun b n => if n < last then b ^^^ T n else b) b = row.foldl (fun b n => b ^^^ T n) b := by
    intro row
    induction row with
    | nil => intro b _; rfl
    | cons n row ih =>
      intro b hb
      simp only [List.foldl_cons, if_pos (hb n (by simp))]
      exact ih _ (fun k hk => hb k (List.mem_cons_of_mem _ hk))
  exact this head 0 h

/-- Of which data each piece is the sum, the first i rows being done. -/
def ofTo (K M O S : Nat) : Nat → Nat → Nat
  | 0 => fun j => if j < K then 2 ^ j else 0
  | i + 1 => fun j => if j = K + i then ofRow (ofTo K M O S i) (K + i) (rowOf K M O S i) else ofTo K M O S i j

def ofs (K M O S : Nat) : Nat → Nat := ofTo K M O S M

theorem ofTo_lt (K M O S i j : Nat) : ofTo K M O S i j < 2 ^ K := by
  induction i generalizing j with
  | zero =>
    show (if j < K then 2 ^ j else 0) < 2 ^ K
    split
    · exact Nat.pow_lt_pow_right (by omega) (by assumption)
    · exact Nat.two_pow_pos K
  | succ i ih =>
    show (if j = K + i then ofRow (ofTo K M O S i) (K + i) (rowOf K M O S i) else ofTo K M O S i j) < 2 ^ K
    split
    · exact ofRow_lt ih
    · exact ih j

theorem ofTo_above (K M O S i j : Nat) (h : K + i ≤ j) : ofTo K M O S i j = 0 := by
  induction i with
  | zero => show (if j < K then 2 ^ j else 0) = 0
            rw [if_neg (by omega)]
  | succ i ih =>
    show (if j = K + i then _ else ofTo K M O S i j) = 0
    rw [if_neg (by omega)]; exact ih (by omega)

theorem ofTo_keeps (K M O S i n j : Nat) (h : i ≤ n) (hj : j < K + i) : ofTo K M O S n j = ofTo K M O S i j := by
  induction n with
  | zero => have : i = 0 := by omega
            rw [this]
  | succ n ih =>
    by_cases e : i = n + 1
    · rw [e]
    · show (if j = K + n then _ else ofTo K M O S n j) = _
      rw [if_neg (by omega)]; exact ih (by omega)

theorem ofs_lt (K M O S j : Nat) : ofs K M O S j < 2 ^ K := ofTo_lt K M O S M j

theorem ofs_data (K M O S j : Nat) (h : j < K) : ofs K M O S j = 2 ^ j := by
  unfold ofs
  rw [ofTo_keeps K M O S 0 M j (Nat.zero_le _) (by omega)]
  show (if j < K then 2 ^ j else 0) = _
  rw [if_pos h]

theorem ofs_spare (K M O S i : Nat) (h : i < M) : ofs K M O S (K + i) = xfold (ofs K M O S) (rowHead K M O S i) := by
  have h1 : ofs K M O S (K + i) = ofTo K M O S (i + 1) (K + i) := ofTo_keeps K M O S (i + 1) M (K + i) (by omega) (by omega)
  rw [h1]
  show (if K + i = K + i then ofRow (ofTo K M O S i) (K + i) (rowOf K M O S i) else _) = _
  rw [if_pos rfl, rowOf_head, ofRow_head _ _ _ (rowHead_lt K M O S i)]
  exact xfold_congr (fun n hn => (ofTo_keeps K M O S i M n (by omega) (rowHead_lt K M O S i n hn)).symm)

theorem rowBits_snoc (row : List Nat) (a : Nat) (h : a ∉ row) : rowBits (row ++ [a]) = rowBits row ^^^ 2 ^ a := by
  apply Nat.eq_of_testBit_eq
  intro i
  rw [testBit_rowBits, Nat.testBit_xor, Nat.testBit_two_pow, testBit_rowBits]
  by_cases e : a = i
  · subst e; simp [h]
  · have e' : ¬ i = a := fun h => e h.symm
    simp [e, e']

theorem span_row {R : List Fct} {T : Nat → Nat} : ∀ (row : List Nat), row.Nodup → (∀ n ∈ row, SpanF R (2 ^ n ^^^ T n) v0) → SpanF R (rowBits row ^^^ xfold T row) v0
  | [], _, _ => by show SpanF R (0 ^^^ 0) v0; rw [Nat.xor_self]; exact SpanF_zero R
  | n :: row, hd, h => by
    rw [List.nodup_cons] at hd
    have h1 := span_row row hd.2 (fun k hk => h k (List.mem_cons_of_mem _ hk))
    have h2 := SpanF_xor (h n (by simp)) h1
    rw [vx_zero] at h2
    rw [rowBits_xor n row hd.1, xfold_cons]
    have e : 2 ^ n ^^^ rowBits row ^^^ (T n ^^^ xfold T row) = 2 ^ n ^^^ T n ^^^ (rowBits row ^^^ xfold T row) := by
      rw [← Nat.xor_assoc, xor_swap (2 ^ n) (rowBits row) (T n), Nat.xor_assoc]
    rw [e]; exact h2

/-- A place and the data whose sum it is are alike by the rows. -/
theorem unit_of (K M O S z : Nat) (j : Nat) (hj : j < K + M) : SpanF (rowFacts K M O S z) (2 ^ j ^^^ ofs K M O S j) v0 := by
  induction j using Nat.strongRecOn with
  | _ j ih =>
    by_cases h : j < K
    · rw [ofs_data K M O S j h, Nat.xor_self]; exact SpanF_zero _
    · obtain ⟨i, rfl⟩ : ∃ i, j = K + i := ⟨j - K, by omega⟩
      have hi : i < M := by omega
      have hm : SpanF (rowFacts K M O S z) (rowBits (rowOf K M O S i)) v0 := by
        have := SpanF_mem (l := rowFacts K M O S z) (f := (rowBits (rowOf K M O S i), zeroB z)) (List.mem_map.2 ⟨i, List.mem_range.2 hi, rfl⟩)
        rw [show byteAt (rowBits (rowOf K M O S i), zeroB z).2 = v0 from vec_zeroB z] at this
        exact this
      have hnd := rowOf_nodup K M O S i
      rw [rowOf_head] at hnd
      have hhd : (rowHead K M O S i).Nodup := (List.nodup_append.1 hnd).1
      have hlt := rowHead_lt K M O S i
      have hno : K + i ∉ rowHead K M O S i := fun hh => by have := hlt _ hh; omega
      have h1 := span_row (R := rowFacts K M O S z) (T := ofs K M O S) (rowHead K M O S i) hhd (fun n hn => by have := hlt n hn; exact ih n this (by omega))
      have h2 := SpanF_xor hm h1
      rw [vx_zero, rowOf_head, rowBits_snoc _ _ hno, ← ofs_spare K M O S i hi] at h2
      have e : rowBits (rowHead K M O S i) ^^^ 2 ^ (K + i) ^^^ (rowBits (rowHead K M O S i) ^^^ ofs K M O S (K + i)) = 2 ^ (K + i) ^^^ ofs K M O S (K + i) := by
        rw [Nat.xor_comm (rowBits _) (2 ^ (K + i)), ← Nat.xor_assoc, xor_cancel]
      rw [e] at h2
      exact h2

/-- Places' bits as the data whose sum they are. -/
def phiTo (T : Nat → Nat) (b : Nat) : Nat → Nat
  | 0 => 0
  | n + 1 => if b.testBit n then phiTo T b n ^^^ T n else phiTo T b n

theorem phiTo_xor (T : Nat → Nat) (a b n : Nat) : phiTo T (a ^^^ b) n = phiTo T a n ^^^ phiTo T b n := by
  induction n with
  | zero => exact (Nat.xor_self 0).symm
  | succ n ih =>
    simp only [phiTo, Nat.testBit_xor, ih]
    cases a.testBit n <;> cases b.testBit n
    · simp
    · simp [Nat.xor_assoc]
    · simp only [Bool.xor_false, if_true, Bool.false_eq_true, if_false]; rw [xor_swap]
    · simp only [Bool.xor_self, Bool.false_eq_true, if_false, if_true]
      rw [Nat.xor_assoc, Nat.xor_comm (T n), ← Nat.xor_assoc, ← Nat.xor_assoc, xor_cancel]

theorem phiTo_zero (T : Nat → Nat) (n : Nat) : phiTo T 0 n = 0 := by
  induction n with
  | zero => rfl
  | succ n ih => simp [phiTo, ih]

theorem phiTo_unit (T : Nat → Nat) (i n : Nat) : phiTo T (2 ^ i) n = if i < n then T i else 0 := by
  induction n with
  | zero => rfl
  | succ n ih =>
    simp only [phiTo, ih, Nat.testBit_two_pow]
    by_cases e : i = n
    · subst e
      simp only [decide_true, if_true, Nat.lt_irrefl, if_false]
      rw [if_pos (by omega), Nat.zero_xor]
    · simp only [e, decide_false, Bool.false_eq_true, if_false]
      by_cases h : i < n
      · rw [if_pos h, if_pos (by omega)]
      · rw [if_neg h, if_neg (by omega)]

theorem phi_row (T : Nat → Nat) (n : Nat) : ∀ (row : List Nat), row.Nodup → (∀ j ∈ row, j < n) → phiTo T (rowBits row) n = xfold T row
  | [], _, _ => phiTo_zero T n
  | j :: row, hd, hl => by
    rw [List.nodup_cons] at hd
    rw [rowBits_xor j row hd.1, phiTo_xor, phiTo_unit, if_pos (hl j (by simp)), phi_row T n row hd.2 (fun k hk => hl k (List.mem_cons_of_mem _ hk)), xfold_cons]

theorem phi_rowOf (K M O S i : Nat) (hi : i < M) : phiTo (ofs K M O S) (rowBits (rowOf K M O S i)) (K + M) = 0 := by
  rw [phi_row _ _ _ (rowOf_nodup K M O S i) (fun j hj => by have := rowOf_lt K M O S i j hj; omega), rowOf_head, xfold_snoc, ← ofs_spare K M O S i hi, Nat.xor_self]

/-- The document's box and the program's, side by side. -/
structure Rel (K M O S z : Nat) (kn : Kn) (ps : List (Nat × ByteArray)) : Prop where
  ok : KnOk K z kn
  inn : ∀ p ∈ ps, p.1 < K + M ∧ p.2.size = z
  to : ∀ p ∈ ps, SpanF (KA kn) (ofs K M O S p.1) (byteAt p.2)
  back : ∀ f ∈ KA kn, SpanF (boxFacts K M O S z ps) f.1 (byteAt f.2)

theorem KB_kn0 (n : Nat) : KB kn0 n = [] := by
  induction n with
  | zero => rfl
  | succ n ih => rw [KB_succ, if_pos (show (kn0 n).1 = 0 from rfl)]; exact ih

theorem Rel.new (K M O S z : Nat) : Rel K M O S z kn0 [] := ⟨kn0_ok K z, fun p hp => by simp at hp, fun p hp => by simp at hp, fun f hf => by rw [KA, KB_kn0] at hf; simp at hf⟩

theorem Rel.rows {K M O S z : Nat} {ps : List (Nat × ByteArray)} {b : Nat} {v : Vec} (h : SpanF (rowFacts K M O S z) b v) : SpanF (boxFacts K M O S z ps) b v := SpanF_sub (fun _ hf => List.mem_append_left _ hf) h

theorem Rel.from {K M O S z : Nat} {kn : Kn} {ps : List (Nat × ByteArray)} (h : Rel K M O S z kn ps) {x : Nat} {v : Vec} (hx : SpanF (boxFacts K M O S z ps) x v) : SpanF (KA kn) (phiTo (ofs K M O S) x (K + M)) v := by
  have key : ∀ (l : List Fct), (∀ f ∈ l, SpanF (KA kn) (phiTo (ofs K M O S) f.1 (K + M)) (byteAt f.2)) → ∀ (b : Nat) (v : Vec), SpanF l b v → SpanF (KA kn) (phiTo (ofs K M O S) b (K + M)) v := by
    intro l
    induction l with
    | nil =>
      rintro _ b v ⟨rfl, rfl⟩
      rw [phiTo_zero]; exact SpanF_zero _
    | cons f l ih =>
      intro hl b v hb
      have hl' : ∀ g ∈ l, SpanF (KA kn) (phiTo (ofs K M O S) g.1 (K + M)) (byteAt g.2) := fun g hg => hl g (List.mem_cons_of_mem _ hg)
      rcases hb with hb | hb
      · exact ih hl' b v hb
      · have h1 := SpanF_xor (ih hl' _ _ hb) (hl f (by simp))
        rw [phiTo_xor, xor_cancel, vx_cancel] at h1
        exact h1
  refine key _ (fun f hf => ?_) x v hx
  rcases List.mem_append.1 hf with hf | hf
  · obtain ⟨i, hi, rfl⟩ := List.mem_map.1 hf
    show SpanF (KA kn) (phiTo (ofs K M O S) (rowBits (rowOf K M O S i)) (K + M)) (byteAt (zeroB z))
    rw [phi_rowOf K M O S i (List.mem_range.1 hi), vec_zeroB]
    exact SpanF_zero _
  · obtain ⟨p, hp, rfl⟩ := List.mem_map.1 hf
    show SpanF (KA kn) (phiTo (ofs K M O S) (2 ^ p.1) (K + M)) (byteAt p.2)
    rw [phiTo_unit, if_pos (h.inn p hp).1]
    exact h.to p hp

/-- What follows at a place, for the one and for the other. -/
theorem Rel.unit {K M O S z : Nat} {kn : Kn} {ps : List (Nat × ByteArray)} (h : Rel K M O S z kn ps) {i : Nat} (hi : i < K + M) (v : Vec) : SpanF (boxFacts K M O S z ps) (2 ^ i) v ↔ SpanF (KA kn) (ofs K M O S i) v := by
  constructor
  · intro hx
    have := h.from hx
    rwa [phiTo_unit, if_pos hi] at this
  · intro hx
    have h1 := SpanF_of h.back hx
    have h2 := SpanF_xor (Rel.rows (ps := ps) (unit_of K M O S z i hi)) h1
    rw [xor_cancel, vx_comm, vx_zero] at h2
    exact h2

theorem Rel.tells {K M O S z : Nat} {kn : Kn} {ps : List (Nat × ByteArray)} (h : Rel K M O S z kn ps) (hn : K + M ≤ 40) {i : Nat} (hi : i < K + M) :
    ((told (boxFacts K M O S z ps) (2 ^ i) z).2 = true ↔ sp ((KA kn).map Prod.fst) (ofs K M O S i)) ∧ ((told (boxFacts K M O S z ps) (2 ^ i) z).2 = true → SpanF (KA kn) (ofs K M O S i) (byteAt (told (boxFacts K M O S z ps) (2 ^ i) z).1)) ∧ (told (boxFacts K M O S z ps) (2 ^ i) z).1.size = z := by
  obtain ⟨h1, h2, h3⟩ := told_ok (boxFacts K M O S z ps) (2 ^ i) z (boxFacts_sized K M O S z ps (fun p hp => (h.inn p hp).2)) (boxFacts_low K M O S z 40 ps hn (fun p hp => (h.inn p hp).1))
  refine ⟨?_, fun ht => (h.unit hi _).1 (h2 ht), h3⟩
  rw [h1, sp_iff, sp_iff]
  exact ⟨fun ⟨v, hv⟩ => ⟨v, (h.unit hi v).1 hv⟩, fun ⟨v, hv⟩ => ⟨v, (h.unit hi v).2 hv⟩⟩

/-- Get answers alike. -/
theorem Rel.get {K M O S z : Nat} {kn : Kn} {ps : List (Nat × ByteArray)} (h : Rel K M O S z kn ps) (hn : K + M ≤ 40) {i : Nat} (hi : i < K + M) :
    ((told (boxFacts K M O S z ps) (2 ^ i) z).2 = true ↔ (left kn (ofs K M O S i) (zeroB z)).1 = 0) ∧ ((left kn (ofs K M O S i) (zeroB z)).1 = 0 → (left kn (ofs K M O S i) (zeroB z)).2 = (told (boxFacts K M O S z ps) (2 ^ i) z).1) := by
  obtain ⟨h1, h2, h3⟩ := h.tells hn hi
  have hl := left_ok h.ok (ofs K M O S i) (zeroB z) (zeroB_size z)
  have hiff : (told (boxFacts K M O S z ps) (2 ^ i) z).2 = true ↔ (left kn (ofs K M O S i) (zeroB z)).1 = 0 := h1.trans hl.zero.symm
  refine ⟨hiff, fun h0 => ?_⟩
  have h4 := h2 (hiff.2 h0)
  have h5 := hl.span
  rw [h0, Nat.xor_zero, vec_zeroB, vx_comm, vx_zero] at h5
  exact vec_inj (by rw [hl.size, h3]) ((ech_sound (KB_ech h.ok 20)).one h5 h4)

/-- Put answers alike. -/
theorem Rel.put {K M O S z : Nat} {kn : Kn} {ps : List (Nat × ByteArray)} (h : Rel K M O S z kn ps) (hn : K + M ≤ 40) {i : Nat} (hi : i < K + M) {p : ByteArray} (hp : p.size = z) :
    ((told (boxFacts K M O S z ps) (2 ^ i) z).2 = true ↔ (left kn (ofs K M O S i) p).1 = 0) ∧ ((left kn (ofs K M O S i) p).1 = 0 → ((left kn (ofs K M O S i) p).2 = zeroB z ↔ (told (boxFacts K M O S z ps) (2 ^ i) z).1 = p)) := by
  obtain ⟨h1, h2, h3⟩ := h.tells hn hi
  have hl := left_ok h.ok (ofs K M O S i) p hp
  have hiff : (told (boxFacts K M O S z ps) (2 ^ i) z).2 = true ↔ (left kn (ofs K M O S i) p).1 = 0 := h1.trans hl.zero.symm
  refine ⟨hiff, fun h0 => ?_⟩
  have h4 := h2 (hiff.2 h0)
  have h5 := hl.span
  rw [h0, Nat.xor_zero] at h5
  have h6 := (ech_sound (KB_ech h.ok 20)).one h5 h4
  constructor
  · intro e
    rw [e, vec_zeroB, vx_zero] at h6
    exact (vec_inj (by rw [hp, h3]) h6).symm
  · intro e
    rw [e] at h6
    have h7 : vx (vx (byteAt (left kn (ofs K M O S i) p).2) (byteAt p)) (byteAt p) = vx (byteAt p) (byteAt p) := by rw [vx_comm (byteAt (left kn (ofs K M O S i) p).2), h6]
    rw [vx_cancel, vx_self] at h7
    exact vec_inj (by rw [hl.size, zeroB_size]) (by rw [h7, vec_zeroB])

theorem boxFacts_sub {K M O S z : Nat} {ps qs : List (Nat × ByteArray)} {b : Nat} {v : Vec} (h : SpanF (boxFacts K M O S z ps) b v) : SpanF (boxFacts K M O S z (ps ++ qs)) b v :=
  SpanF_sub (fun f hf => by
    rcases List.mem_append.1 hf with hf | hf
    · exact List.mem_append_left _ hf
    · refine List.mem_append_right _ ?_
      unfold putFacts at hf ⊢
      rw [List.map_append]
      exact List.mem_append_left _ hf) h

/-- Both go on alike behind a piece that did not follow. -/
theorem Rel.push {K M O S z : Nat} {kn : Kn} {ps : List (Nat × ByteArray)} (h : Rel K M O S z kn ps) (hK : K ≤ 20) {i : Nat} (hi : i < K + M) {p : ByteArray} (hp : p.size = z) (h0 : (left kn (ofs K M O S i) p).1 ≠ 0) :
    Rel K M O S z (putK kn (ofs K M O S i) p) (ps ++ [(i, p)]) := by
  have hx := ofs_lt K M O S i
  refine ⟨putK_ok h.ok hK hp hx, ?_, ?_, ?_⟩
  · intro q hq
    rcases List.mem_append.1 hq with hq | hq
    · exact h.inn q hq
    · simp at hq; subst hq; exact ⟨hi, hp⟩
  · intro q hq
    rcases List.mem_append.1 hq with hq | hq
    · exact putK_keeps h.ok hK hp hx (h.to q hq)
    · simp at hq; subst hq
      exact putK_has h.ok hK hp hx (fun e => absurd e h0)
  · refine putK_back h.ok hp (fun f hf => boxFacts_sub (h.back f hf)) ?_
    have hm : SpanF (boxFacts K M O S z (ps ++ [(i, p)])) (2 ^ i) (byteAt p) := SpanF_mem (f := (2 ^ i, p)) (List.mem_append_right _ (by unfold putFacts; simp))
    have h2 := SpanF_xor hm (Rel.rows (ps := ps ++ [(i, p)]) (unit_of K M O S z i hi))
    rw [vx_zero, ← Nat.xor_assoc, Nat.xor_self, Nat.zero_xor] at h2
    exact h2

theorem rows_indep_on (K M O S z : Nat) (E : List Nat) (hE : Indep E) (hlow : ∀ f ∈ E, ∀ j, K ≤ j → f.testBit j = false) : Indep ((rowFacts K M O S z).reverse.map Prod.fst ++ E) := by
  have h : ∀ n, Indep ((((List.range n).map fun i => (rowBits (rowOf K M O S i), zeroB z)).reverse).map Prod.fst ++ E) ∧ (∀ f ∈ ((((List.range n).map fun i => (rowBits (rowOf K M O S i), zeroB z)).reverse).map Prod.fst ++ E), ∀ j, K + n ≤ j → f.testBit j = false) := by
    intro n
    induction n with
    | zero => exact ⟨hE, fun f hf => hlow f hf⟩
    | succ n ih =>
      rw [List.range_succ, List.map_append, List.reverse_append, List.map_append]
      refine ⟨⟨fun hs => ?_, ih.1⟩, fun f hf j hj => ?_⟩
      · have h1 := sp_low _ (K + n) ih.2 hs (K + n) (Nat.le_refl _)
        have h2 : (rowBits (rowOf K M O S n)).testBit (K + n) = true := by
          rw [testBit_rowBits, decide_eq_true_eq, rowOf_head]; simp
        have h3 : (rowBits (rowOf K M O S n)).testBit (K + n) = false := h1
        rw [h2] at h3
        cases h3
      · rw [List.append_assoc] at hf
        rcases List.mem_append.1 hf with hf | hf
        · simp at hf
          subst hf
          rw [testBit_rowBits, decide_eq_false_iff_not]
          intro hm
          have := rowOf_lt K M O S n j hm
          omega
        · exact ih.2 f hf j (by omega)
  exact (h M).1

/-- Need answers alike. -/
theorem Rel.need {K M O S z : Nat} {kn : Kn} {ps : List (Nat × ByteArray)} (h : Rel K M O S z kn ps) (hK : K ≤ 20) (hn : K + M ≤ 40) : (needTo (boxFacts K M O S z ps) z (K + M)).2 = openK kn K := by
  have hA : KA kn = KB kn K := KB_above h.ok 20 hK
  have hlow : ∀ f ∈ (KA kn).map Prod.fst, ∀ j, K ≤ j → f.testBit j = false := by rw [hA]; exact ech_low (KB_ech h.ok K)
  have hB := rows_indep_on K M O S z ((KA kn).map Prod.fst) (ech_indep (KB_ech h.ok 20)) hlow
  have hc := need_count (boxFacts K M O S z ps) z (K + M) _ hn (boxFacts_sized K M O S z ps (fun p hp => (h.inn p hp).2)) (boxFacts_low K M O S z (K + M) ps (Nat.le_refl _) (fun p hp => (h.inn p hp).1)) hB (fun f hf => ?_) (fun f hf => ?_)
  · have hl := openK_KB kn K
    rw [List.length_append, List.length_map, List.length_map, List.length_reverse, hA] at hc
    have hM : (rowFacts K M O S z).length = M := by simp [rowFacts]
    omega
  · rcases List.mem_append.1 hf with hf | hf
    · obtain ⟨g, hg, rfl⟩ := List.mem_map.1 hf
      exact (sp_iff _ _).2 ⟨_, Rel.rows (SpanF_mem (List.mem_reverse.1 hg))⟩
    · obtain ⟨g, hg, rfl⟩ := List.mem_map.1 hf
      exact (sp_iff _ _).2 ⟨_, h.back g hg⟩
  · obtain ⟨g, hg, rfl⟩ := List.mem_map.1 hf
    have hrow : ∀ f ∈ (rowFacts K M O S z).map Prod.fst, sp ((rowFacts K M O S z).reverse.map Prod.fst ++ (KA kn).map Prod.fst) f := fun f hf => sp_mem (List.mem_append_left _ (by rw [List.map_reverse]; exact List.mem_reverse.2 hf))
    rcases List.mem_append.1 hg with hg | hg
    · exact hrow _ (List.mem_map.2 ⟨g, hg, rfl⟩)
    · obtain ⟨p, hp, rfl⟩ := List.mem_map.1 hg
      have h1 : sp ((rowFacts K M O S z).map Prod.fst) (2 ^ p.1 ^^^ ofs K M O S p.1) := (sp_iff _ _).2 ⟨_, unit_of K M O S z p.1 (h.inn p hp).1⟩
      have h2 : sp ((KA kn).map Prod.fst) (ofs K M O S p.1) := (sp_iff _ _).2 ⟨_, h.to p hp⟩
      have h3 := sp_xor (sp_of hrow h1) (sp_sub (l' := (rowFacts K M O S z).reverse.map Prod.fst ++ (KA kn).map Prod.fst) (fun f hf => List.mem_append_right _ hf) h2)
      rw [xor_cancel] at h3
      exact h3

/-- The sum of a word's pieces is the word's. -/
theorem word_of (K M O S z : Nat) (P : List ByteArray) (hl : P.length = K + M) (hp : ∀ x ∈ P, x.size = z) (hfit : ∀ i, i < M → sumB P (rowOf K M O S i) z = zeroB z) (i : Nat) (hi : i < K + M) :
    evTo (fun j => byteAt (P.getD j ByteArray.empty)) (ofs K M O S i) (K + M) = byteAt (P.getD i ByteArray.empty) := by
  have hm := word_meets K M O S z P [] hl hp hfit (fun p hp => by simp at hp)
  have h1 := hm.span (Rel.rows (ps := []) (unit_of K M O S z i hi))
  rw [evTo_xor, evTo_unit, if_pos hi] at h1
  have h2 : vx (vx (evTo (fun j => byteAt (P.getD j ByteArray.empty)) (ofs K M O S i) (K + M)) (byteAt (P.getD i ByteArray.empty))) (byteAt (P.getD i ByteArray.empty)) = vx v0 (byteAt (P.getD i ByteArray.empty)) := by
    rw [vx_comm (evTo _ _ _), h1]
  rwa [vx_cancel, vx_comm, vx_zero] at h2

end Go.Proofs.Ytnjaofkieajnlaa

/- Boxes that hold pieces of a word. Nothing of the program. -/
namespace Go.Proofs.Ytnjaofkieajnlaa

/-- A word's pieces, place by place. -/
abbrev pvec (P : List ByteArray) : Nat → Vec := fun j => byteAt (P.getD j ByteArray.empty)

structure IsWord (K M O S z : Nat) (P : List ByteArray) : Prop where
  len : P.length = K + M
  size : ∀ x ∈ P, x.size = z
  fit : ∀ i, i < M → sumB P (rowOf K M O S i) z = zeroB z

theorem IsWord.at_size {K M O S z : Nat} {P : List ByteArray} (h : IsWord K M O S z P) {i : Nat} (hi : i < K + M) : (P.getD i ByteArray.empty).size = z :=
  h.size _ (by rw [List.getD_eq_getElem?_getD, List.getElem?_eq_getElem (by rw [h.len]; exact hi)]; exact List.getElem_mem _)

/-- All that is known is the word's. -/
structure WKn (K M O S z : Nat) (P : List ByteArray) (kn : Kn) : Prop where
  ok : KnOk K z kn
  meets : Meets (pvec P) (K + M) (KA kn)

theorem WKn.new (K M O S z : Nat) (P : List ByteArray) : WKn K M O S z P kn0 := ⟨kn0_ok K z, fun f hf => by rw [KA, KB_kn0] at hf; simp at hf⟩

/-- What is left of a piece of the word is the word's. -/
theorem WKn.left {K M O S z : Nat} {P : List ByteArray} {kn : Kn} (h : WKn K M O S z P kn) (hw : IsWord K M O S z P) {i : Nat} (hi : i < K + M) : evTo (pvec P) (left kn (ofs K M O S i) (P.getD i ByteArray.empty)).1 (K + M) = byteAt (left kn (ofs K M O S i) (P.getD i ByteArray.empty)).2 := by
  have hl := left_ok h.ok (ofs K M O S i) _ (hw.at_size hi)
  have h1 := h.meets.span hl.span
  rw [evTo_xor, word_of K M O S z P hw.len hw.size hw.fit i hi] at h1
  have h2 : vx (byteAt (P.getD i ByteArray.empty)) (vx (byteAt (P.getD i ByteArray.empty)) (evTo (pvec P) (Go.Proofs.Ytnjaofkieajnlaa.left kn (ofs K M O S i) (P.getD i ByteArray.empty)).1 (K + M))) = vx (byteAt (P.getD i ByteArray.empty)) (vx (byteAt (P.getD i ByteArray.empty)) (byteAt (Go.Proofs.Ytnjaofkieajnlaa.left kn (ofs K M O S i) (P.getD i ByteArray.empty)).2)) := by rw [h1]
  rwa [← vx_assoc, ← vx_assoc, vx_self, vx_comm v0, vx_comm v0, vx_zero, vx_zero] at h2

theorem WKn.nought {K M O S z : Nat} {P : List ByteArray} {kn : Kn} (h : WKn K M O S z P kn) (hw : IsWord K M O S z P) {i : Nat} (hi : i < K + M) (h0 : (Go.Proofs.Ytnjaofkieajnlaa.left kn (ofs K M O S i) (P.getD i ByteArray.empty)).1 = 0) : (Go.Proofs.Ytnjaofkieajnlaa.left kn (ofs K M O S i) (P.getD i ByteArray.empty)).2 = zeroB z := by
  have h1 := h.left hw hi
  rw [h0, evTo_zero] at h1
  exact vec_inj (by rw [(left_ok h.ok _ _ (hw.at_size hi)).size, zeroB_size]) (by rw [← h1, vec_zeroB])

theorem WKn.put {K M O S z : Nat} {P : List ByteArray} {kn : Kn} (h : WKn K M O S z P kn) (hw : IsWord K M O S z P) (hK : K ≤ 20) {i : Nat} (hi : i < K + M) : WKn K M O S z P (putK kn (ofs K M O S i) (P.getD i ByteArray.empty)) := by
  refine ⟨putK_ok h.ok hK (hw.at_size hi) (ofs_lt K M O S i), fun f hf => ?_⟩
  unfold putK at hf
  by_cases e : (Go.Proofs.Ytnjaofkieajnlaa.left kn (ofs K M O S i) (P.getD i ByteArray.empty)).1 = 0
  · rw [if_pos e] at hf; exact h.meets f hf
  · rw [if_neg e] at hf
    obtain ⟨j, hj, rfl, hj0⟩ := KB_mem hf
    by_cases ej : j = (Go.Proofs.Ytnjaofkieajnlaa.left kn (ofs K M O S i) (P.getD i ByteArray.empty)).1.log2
    · simp only [if_pos ej]; exact h.left hw hi
    · simp only [if_neg ej] at hj0 ⊢
      exact h.meets _ (KB_has hj hj0)

/-- What follows is the word's. -/
theorem WKn.get {K M O S z : Nat} {P : List ByteArray} {kn : Kn} (h : WKn K M O S z P kn) (hw : IsWord K M O S z P) {i : Nat} (hi : i < K + M) (h0 : (Go.Proofs.Ytnjaofkieajnlaa.left kn (ofs K M O S i) (zeroB z)).1 = 0) : (Go.Proofs.Ytnjaofkieajnlaa.left kn (ofs K M O S i) (zeroB z)).2 = P.getD i ByteArray.empty := by
  have hl := left_ok h.ok (ofs K M O S i) _ (zeroB_size z)
  have h1 := hl.span
  rw [h0, Nat.xor_zero, vec_zeroB, vx_comm, vx_zero] at h1
  have h2 := h.meets.span h1
  rw [word_of K M O S z P hw.len hw.size hw.fit i hi] at h2
  exact vec_inj (by rw [hl.size, hw.at_size hi]) h2.symm

/-- Which piece is left over hangs on the bits alone. -/
theorem left_zero {K z : Nat} {kn : Kn} (h : KnOk K z kn) (x : Nat) {p q : ByteArray} (hp : p.size = z) (hq : q.size = z) : (left kn x p).1 = 0 ↔ (left kn x q).1 = 0 :=
  (left_ok h x p hp).zero.trans (left_ok h x q hq).zero.symm

/-- The raw number of a place. -/
def placeOf (n : Nat) (c : Int) : Nat := ((if c < 0 then -(c + 1) else c) % (n : Int)).toNat

theorem placeOf_lt (n : Nat) (c : Int) (hn : 0 < n) : placeOf n c < n := by
  unfold placeOf
  have h1 := Int.emod_nonneg (if c < 0 then -(c + 1) else c) (show (n : Int) ≠ 0 by omega)
  have h2 := Int.emod_lt_of_pos (if c < 0 then -(c + 1) else c) (show 0 < (n : Int) by omega)
  omega

/-- What is known behind the first k of some places' pieces. -/
def fillTo (K M O S : Nat) (P : List ByteArray) (l : List Int) : Nat → Kn
  | 0 => kn0
  | k + 1 => putK (fillTo K M O S P l k) (ofs K M O S (placeOf (K + M) (l.getD k 0))) (P.getD (placeOf (K + M) (l.getD k 0)) ByteArray.empty)

theorem fillTo_ok {K M O S z : Nat} {P : List ByteArray} (hw : IsWord K M O S z P) (hK : 1 ≤ K ∧ K ≤ 20) (l : List Int) (k : Nat) : WKn K M O S z P (fillTo K M O S P l k) := by
  induction k with
  | zero => exact WKn.new K M O S z P
  | succ k ih => exact ih.put hw hK.2 (placeOf_lt _ _ (by omega))

/-- What was put in follows. -/
theorem fillTo_has {K M O S z : Nat} {P : List ByteArray} (hw : IsWord K M O S z P) (hK : 1 ≤ K ∧ K ≤ 20) (l : List Int) (n : Nat) : ∀ k, k < n → sp ((KA (fillTo K M O S P l n)).map Prod.fst) (ofs K M O S (placeOf (K + M) (l.getD k 0))) := by
  induction n with
  | zero => intro k hk; omega
  | succ n ih =>
    intro k hk
    have hok := fillTo_ok hw hK l n
    have hpl := placeOf_lt (K + M) (l.getD n 0) (by omega)
    by_cases e : k = n
    · subst e
      exact (sp_iff _ _).2 ⟨_, putK_has hok.ok hK.2 (hw.at_size hpl) (ofs_lt K M O S _) (fun h0 => hok.nought hw hpl h0)⟩
    · obtain ⟨v, hv⟩ := (sp_iff _ _).1 (ih k (by omega))
      exact (sp_iff _ _).2 ⟨v, putK_keeps hok.ok hK.2 (hw.at_size hpl) (ofs_lt K M O S _) hv⟩

/-- Another piece than the one that follows is refused. -/
theorem WKn.other {K M O S z : Nat} {P : List ByteArray} {kn : Kn} (h : WKn K M O S z P kn) (hw : IsWord K M O S z P) {i : Nat} (hi : i < K + M) {q : ByteArray} (hq : q.size = z) (hne : q ≠ P.getD i ByteArray.empty) (h0 : (Go.Proofs.Ytnjaofkieajnlaa.left kn (ofs K M O S i) q).1 = 0) : (Go.Proofs.Ytnjaofkieajnlaa.left kn (ofs K M O S i) q).2 ≠ zeroB z := by
  intro e
  have hl := left_ok h.ok (ofs K M O S i) _ hq
  have h1 := hl.span
  rw [h0, Nat.xor_zero, e, vec_zeroB, vx_zero] at h1
  have h2 := h.meets.span h1
  rw [word_of K M O S z P hw.len hw.size hw.fit i hi] at h2
  exact hne (vec_inj (by rw [hq, hw.at_size hi]) h2.symm)

/-- Where nothing follows, whatever is put in is got. -/
theorem put_get {K z : Nat} {kn : Kn} (h : KnOk K z kn) (hK : K ≤ 20) {x : Nat} (hx : x < 2 ^ K) {q : ByteArray} (hq : q.size = z) (h0 : (left kn x q).1 ≠ 0) : (left (putK kn x q) x (zeroB z)).1 = 0 ∧ (left (putK kn x q) x (zeroB z)).2 = q := by
  have hs := putK_has h hK hq hx (fun e => absurd e h0)
  have hok := putK_ok h hK hq hx
  have hl := left_ok hok x (zeroB z) (zeroB_size z)
  have hz : (left (putK kn x q) x (zeroB z)).1 = 0 := hl.zero.2 ((sp_iff _ _).2 ⟨_, hs⟩)
  refine ⟨hz, ?_⟩
  have h1 := hl.span
  rw [hz, Nat.xor_zero, vec_zeroB, vx_comm, vx_zero] at h1
  exact vec_inj (by rw [hl.size, hq]) ((ech_sound (KB_ech hok 20)).one h1 hs)

/-- All places follow just where none is missing. -/
theorem all_follow {K M O S z : Nat} {kn : Kn} (h : KnOk K z kn) (hK : K ≤ 20) (hM : 1 ≤ M) : (∀ i, i < K + M → (left kn (ofs K M O S i) (zeroB z)).1 = 0) ↔ openK kn K = 0 := by
  constructor
  · intro ha
    refine open_some h hK (fun j hj => ?_)
    have := (left_ok h (ofs K M O S j) (zeroB z) (zeroB_size z)).zero.1 (ha j (by omega))
    rwa [ofs_data K M O S j hj] at this
  · intro h0 i _
    exact (left_ok h (ofs K M O S i) (zeroB z) (zeroB_size z)).zero.2 (open_none h hK h0 (ofs_lt K M O S i))

end Go.Proofs.Ytnjaofkieajnlaa
