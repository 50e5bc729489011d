/- Texts of the proof, part 14. -/
import Derived.BigRegion
import Derived.Laws.ResultCell
import Derived.Test.YtnjaofkieajnlaaKnownG1
import Derived.Test.YtnjaofkieajnlaaKnownG10
import Derived.Test.YtnjaofkieajnlaaKnownG11
import Derived.Test.YtnjaofkieajnlaaKnownG12
import Derived.Test.YtnjaofkieajnlaaKnownG2
import Derived.Test.YtnjaofkieajnlaaKnownG6
import Derived.Test.YtnjaofkieajnlaaKnownG8

/- Lists of facts in memory, and the document's own stairs. -/
namespace Go.Proofs.Ytnjaofkieajnlaa
open Go.RowKit

/-- Facts as values: two cells each. -/
def factV : List Fct → List Value
  | [] => []
  | f :: l => .int .i64 (f.1 : Int) :: .string f.2 :: factV l

theorem factV_append (a b : List Fct) : factV (a ++ b) = factV a ++ factV b := by
  induction a with
  | nil => rfl
  | cons f a ih => simp [factV, ih]

theorem factV_length (l : List Fct) : (factV l).length = l.length * 2 := by
  induction l with
  | nil => rfl
  | cons f l ih => simp [factV, ih]; omega

theorem factV_get (l : List Fct) (k : Nat) (h : k < l.length) : (factV l)[k * 2]? = some (.int .i64 ((l.getD k (0, ByteArray.empty)).1 : Int)) ∧ (factV l)[k * 2 + 1]? = some (.string (l.getD k (0, ByteArray.empty)).2) := by
  induction l generalizing k with
  | nil => simp at h
  | cons f l ih =>
    cases k with
    | zero => exact ⟨rfl, rfl⟩
    | succ k =>
      have := ih k (by simpa using h)
      rw [show (k + 1) * 2 = k * 2 + 1 + 1 from by omega]
      exact this

theorem factV_one (l : List Fct) : ∀ u ∈ factV l, u.oneCell' = true := by
  induction l with
  | nil => intro u hu; simp [factV] at hu
  | cons f l ih =>
    intro u hu
    simp only [factV, List.mem_cons] at hu
    rcases hu with rfl | rfl | hu
    · rfl
    · rfl
    · exact ih u hu

/-- A list of facts, as it is read. -/
def FactsAt (w : World) (v : Value) (l : List Fct) : Prop :=
  ∃ ao cap, v = .slice ao l.length cap ∧ l.length ≤ cap ∧ ∀ k, k < l.length → ∃ q, ao = some ⟨q, 0, none⟩ ∧ q < w.heap.size ∧ w.cell? ⟨q, k * 2, none⟩ = some (.int .i64 ((l.getD k (0, ByteArray.empty)).1 : Int)) ∧ w.cell? ⟨q, k * 2 + 1, none⟩ = some (.string (l.getD k (0, ByteArray.empty)).2)

theorem FactsAt.on {w w1 : World} {v : Value} {l : List Fct} {n : Nat} (h : FactsAt w v l) (hn : w.heap.size ≤ n) (hb : Below n w w1) : FactsAt w1 v l := by
  obtain ⟨ao, cap, hv, hc, h⟩ := h
  refine ⟨ao, cap, hv, hc, fun k hk => ?_⟩
  obtain ⟨q, ha, hq, h1, h2⟩ := h k hk
  refine ⟨q, ha, Nat.lt_of_lt_of_le hq hb.size, ?_⟩
  rw [hb.cell (Nat.lt_of_lt_of_le hq hn), hb.cell (Nat.lt_of_lt_of_le hq hn)]
  exact ⟨h1, h2⟩

theorem facts_news {w : World} {q : Nat} {l : List Fct} (h : ∀ k, k < l.length → ∃ p, some (⟨q, 0, none⟩ : Addr) = some ⟨p, 0, none⟩ ∧ p < w.heap.size ∧ w.cell? ⟨p, k * 2, none⟩ = some (.int .i64 ((l.getD k (0, ByteArray.empty)).1 : Int)) ∧ w.cell? ⟨p, k * 2 + 1, none⟩ = some (.string (l.getD k (0, ByteArray.empty)).2)) :
    ∀ j u, (factV l)[j]? = some u → w.cell? ((⟨q, 0, none⟩ : Addr).add j) = some u := by
  intro j u hu
  have hj : j < l.length * 2 := by have := (List.getElem?_eq_some_iff.1 hu).1; rwa [factV_length] at this
  have hadd : (⟨q, 0, none⟩ : Addr).add j = ⟨q, j, none⟩ := by unfold Addr.add; split <;> simp_all
  rw [hadd]
  obtain ⟨p, hp, _, h1, h2⟩ := h (j / 2) (by omega)
  obtain ⟨g1, g2⟩ := factV_get l (j / 2) (by omega)
  simp only [Option.some.injEq, Addr.mk.injEq] at hp
  obtain ⟨rfl, _⟩ := hp
  rcases Nat.mod_two_eq_zero_or_one j with hm | hm
  · have e : j / 2 * 2 = j := by omega
    rw [e] at h1 g1
    rw [h1, ← g1, hu]
  · have e : j / 2 * 2 + 1 = j := by omega
    rw [e] at h2 g2
    rw [h2, ← g2, hu]

/-- What found holds. -/
def foundB (o : Option Fct) : Array Value := match o with
  | none => #[.int .i64 0, .string ByteArray.empty]
  | some g => #[.int .i64 (g.1 : Int), .string g.2]

def sifted (bit : Nat) (l : List Fct) (k : Nat) : List Fct × Option Fct := (l.take k).foldl (siftStep bit) ([], none)

theorem sifted_succ (bit : Nat) (l : List Fct) (k : Nat) (h : k < l.length) : sifted bit l (k + 1) = siftStep bit (sifted bit l k) (l.getD k (0, ByteArray.empty)) := by
  unfold sifted
  rw [List.take_succ_eq_append_getElem h, List.foldl_append, List.getD_eq_getElem?_getD, List.getElem?_eq_getElem h]; rfl

theorem sifted_all (bit : Nat) (l : List Fct) : sifted bit l l.length = sift bit l := by unfold sifted sift; rw [List.take_length]

theorem siftStep_len (bit : Nat) (st : List Fct × Option Fct) (f : Fct) : (siftStep bit st f).1.length + (siftStep bit st f).2.toList.length ≤ st.1.length + st.2.toList.length + 1 := by
  obtain ⟨r, o⟩ := st
  unfold siftStep
  by_cases h : f.1.testBit bit = true
  · rw [if_pos h]
    cases o <;> simp
  · rw [if_neg h]
    simp; omega

theorem sifted_len (bit : Nat) (l : List Fct) (k : Nat) (h : k ≤ l.length) : (sifted bit l k).1.length + (sifted bit l k).2.toList.length ≤ k := by
  induction k with
  | zero => simp [sifted]
  | succ k ih =>
    rw [sifted_succ bit l k (by omega)]
    have := siftStep_len bit (sifted bit l k) (l.getD k (0, ByteArray.empty))
    have := ih (by omega)
    omega

theorem sifted_found (bit z : Nat) (l : List Fct) (k : Nat) (hs : Sized z l) {g : Fct} (h : (sifted bit l k).2 = some g) : g ∈ l ∧ g.1.testBit bit = true := by
  have h1 := (sift_ok bit z (l.take k) (fun x hx => hs x (List.mem_of_mem_take hx))).found g h
  exact ⟨List.mem_of_mem_take h1.1, h1.2⟩

theorem stairsTo_len (l : List Fct) (n : Nat) : (stairsTo l n).1.length + (stairsTo l n).2.length ≤ l.length := by
  induction n with
  | zero => simp [stairsTo]
  | succ n ih =>
    have h := sifted_len (39 - n) (stairsTo l n).2 _ (Nat.le_refl _)
    rw [sifted_all] at h
    show ((stairsTo l n).1 ++ (sift (39 - n) (stairsTo l n).2).2.toList).length + (sift (39 - n) (stairsTo l n).2).1.length ≤ _
    rw [List.length_append]; omega

theorem low_lt {n : Nat} {l : List Fct} (h : Low n l) (hn : n ≤ 40) {f : Fct} (hf : f ∈ l) : f.1 < 1099511627776 := by
  have : f.1 < 2 ^ 40 := Nat.lt_pow_two_of_testBit _ (fun i hi => h f hf i (by omega))
  omega

theorem found_frozen {w : World} {q : Nat} {cs : Array Value} {t : TypeId} (h : w.heap[q]? = some (.cells cs t (0, 0))) (i : Nat) : w.frozen? ⟨q, i, none⟩ = false := by
  simp [World.frozen?, h]

theorem heap_alloc2 (w : World) (a b : Obj) : ((w.alloc a).alloc b).heap[w.heap.size + 1]? = some b := by
  have h := heap_alloc_new (w.alloc a) b
  rwa [World.size_alloc] at h

end Go.Proofs.Ytnjaofkieajnlaa

/- The document's own told: what facts say of the sum of some pieces. -/
namespace Go.Proofs.Ytnjaofkieajnlaa
open Go.RowKit

theorem stairsAll_all (z : Nat) (l : List Fct) (hs : Sized z l) (hl : Low 40 l) (n : Nat) (hn : n = 40) : Sized z (stairsAll l n) ∧ ∀ f ∈ stairsAll l n, f.1 < 1099511627776 := by
  have hk := stair_ok z l hs hl n (by omega)
  refine ⟨hk.sized, fun f hf => ?_⟩
  have h1 := sp_low (l.map Prod.fst) 40 (fun x hx j hj => by obtain ⟨g, hg, rfl⟩ := List.mem_map.1 hx; exact hl g hg j hj) ((sp_iff l f.1).2 ⟨_, hk.back f hf⟩)
  have h2 : f.1 < 2 ^ 40 := Nat.lt_pow_two_of_testBit _ (fun i hi => h1 i hi)
  omega

theorem stairs_all (z : Nat) (l : List Fct) (hs : Sized z l) (hl : Low 40 l) : Sized z (stairs l) ∧ ∀ f ∈ stairs l, f.1 < 1099511627776 := stairsAll_all z l hs hl 40 rfl

theorem stairsAll_len (l : List Fct) (n : Nat) : (stairsAll l n).length ≤ l.length := by
  have := stairsTo_len l n
  show ((stairsTo l n).1 ++ (stairsTo l n).2).length ≤ _
  rw [List.length_append]; exact this

theorem stairs_len (l : List Fct) : (stairs l).length ≤ l.length := stairsAll_len l 40

/-- What is told as far as k. -/
def telling (S : List Fct) (st : Nat × ByteArray) (k : Nat) : Nat × ByteArray := tell (S.take k) st

theorem telling_succ (S : List Fct) (st : Nat × ByteArray) (k : Nat) (h : k < S.length) : telling S st (k + 1) = tellStep (telling S st k) (S.getD k (0, ByteArray.empty)) := by
  unfold telling tell
  rw [List.take_succ_eq_append_getElem h, List.foldl_append, List.getD_eq_getElem?_getD, List.getElem?_eq_getElem h]; rfl

theorem telling_all (S : List Fct) (st : Nat × ByteArray) : telling S st S.length = tell S st := by unfold telling; rw [List.take_length]

theorem log2_up {x h : Nat} (hx : x < 1099511627776) (hh : h ≤ x.log2) : (h < 40 ∧ (1 : Int) < (x : Int) / 2 ^ h ∧ h + 1 ≤ x.log2) ∨ (h = x.log2 ∧ h < 40 ∧ ¬ (1 : Int) < (x : Int) / 2 ^ h) := by
  have h40 : x.log2 < 40 := by
    by_cases h0 : x = 0
    · subst h0; decide
    · exact (Nat.log2_lt h0).2 (by omega)
  rw [div_cast]
  by_cases hlt : h < x.log2
  · refine Or.inl ⟨by omega, ?_, hlt⟩
    have h0 : x ≠ 0 := fun e => by subst e; simp at hlt
    have h1 : 2 ^ (h + 1) ≤ x := (Nat.le_log2 h0).1 hlt
    have h2 : 2 ≤ x / 2 ^ h := (Nat.le_div_iff_mul_le (Nat.two_pow_pos h)).2 (by rw [Nat.pow_succ] at h1; omega)
    omega
  · have he : h = x.log2 := by omega
    refine Or.inr ⟨he, by omega, ?_⟩
    have h1 : x < 2 ^ (h + 1) := by rw [he]; exact Nat.lt_log2_self
    have h2 : x / 2 ^ h < 2 := Nat.div_lt_of_lt_mul (by rw [Nat.pow_succ] at h1; omega)
    omega

end Go.Proofs.Ytnjaofkieajnlaa

/- The document's own boxes: facts. -/
namespace Go.Proofs.Ytnjaofkieajnlaa
open Go.RowKit

/-- A list of numbers, as it is read. -/
def NumsAt (w : World) (v : Value) (l : List Nat) : Prop :=
  ∃ ao cap, v = .slice ao l.length cap ∧ l.length ≤ cap ∧ ∀ k, k < l.length → ∃ q o, ao = some ⟨q, o, none⟩ ∧ q < w.heap.size ∧ w.cell? ⟨q, o + k, none⟩ = some (.int .i64 (l.getD k 0 : Int))

theorem NumsAt.on {w w1 : World} {v : Value} {l : List Nat} (h : NumsAt w v l) (hb : Below w.heap.size w w1) : NumsAt w1 v l := by
  obtain ⟨ao, cap, hv, hl, hc⟩ := h
  refine ⟨ao, cap, hv, hl, fun k hk => ?_⟩
  obtain ⟨q, o, ha, hq, hcell⟩ := hc k hk
  exact ⟨q, o, ha, Nat.lt_of_lt_of_le hq hb.size, by rw [hb.cell hq]; exact hcell⟩

theorem rowBits_lt (row : List Nat) (h : ∀ j ∈ row, j < 40) : rowBits row < 1099511627776 := by
  have : rowBits row < 2 ^ 40 := Nat.lt_pow_two_of_testBit _ (fun i hi => by
    rw [testBit_rowBits]
    exact decide_eq_false (fun hm => by have := h i hm; omega))
  omega

theorem rowBits_take (row : List Nat) (k : Nat) (h : k < row.length) : rowBits (row.take (k + 1)) = rowBits (row.take k) ||| 2 ^ row.getD k 0 := by
  unfold rowBits
  rw [List.take_succ_eq_append_getElem h, List.foldl_append, List.getD_eq_getElem?_getD, List.getElem?_eq_getElem h]; rfl

theorem puts_take (ps : List (Nat × ByteArray)) (k : Nat) (h : k < ps.length) : (putFacts ps).take (k + 1) = (putFacts ps).take k ++ [(2 ^ (ps.map Prod.fst).getD k 0, (ps.map Prod.snd).getD k ByteArray.empty)] := by
  have hl : k < (putFacts ps).length := by simpa [putFacts] using h
  rw [List.take_succ_eq_append_getElem hl]
  simp [putFacts, h]

theorem pow_lt (j : Nat) (h : j < 40) : 2 ^ j < 1099511627776 := Nat.lt_of_lt_of_le (Nat.pow_lt_pow_right (by omega) h) (by decide)

theorem shl_nat (x : Nat) (h : x < 40) : RowKit.wrap64 (2 ^ x) = ((2 ^ x : Nat) : Int) := by
  have h1 := pow_lt x h
  have h2 : (2 : Int) ^ x = ((2 ^ x : Nat) : Int) := by rw [Int.natCast_pow]; rfl
  rw [h2]
  generalize 2 ^ x = y at *
  unfold RowKit.wrap64
  omega

theorem shl_wrap (x : Nat) (h : x < 40) : IntKind.i64.wrap (2 ^ x) = ((2 ^ x : Nat) : Int) := by
  have h1 := pow_lt x h
  have h2 : (2 : Int) ^ x = ((2 ^ x : Nat) : Int) := by rw [Int.natCast_pow]; rfl
  rw [h2]
  exact wrapNat _ (by omega)

end Go.Proofs.Ytnjaofkieajnlaa

/- The program's box as it is called: Get, Put and Need. -/
namespace Go.Proofs.Ytnjaofkieajnlaa
open Go.RowKit

theorem below_chg {S : Nat → Prop} {w wr w2 : World} (h : Below w.heap.size w wr) (hc : Chg S wr w2) (hs : ∀ k, S k → w.heap.size ≤ k) : Below w.heap.size w w2 :=
  ⟨hc.os.trans h.os, hc.tape.trans h.tape, hc.output.trans h.output, Nat.le_trans h.size hc.size, fun k hk => (hc.block k (Nat.lt_of_lt_of_le hk h.size) (fun s => by have := hs k s; omega)).trans (h.block k hk)⟩

theorem get_arg (p K n z : Nat) (i : Int) (of : Nat → Nat) (kn : Kn) (w : World) (hi : i < 0 ∨ (n : Int) ≤ i) (hbox : BoxAt w p K n z of kn) :
    Calls Try.prog 50 #[.pointer (some ⟨p, 0, none⟩), .int .i64 i] w fun e w' => e = .returned (.tuple #[.string ⟨#[]⟩, .int .i64 2]) ∧ w' = w := by
  go_enter Try.func50, Try.ntmps50
  go_wp2_with fail
  refine (bget_arg p K n z i of kn _ hi hbox).mono ?_
  rintro e w1 ⟨rfl, rfl⟩
  go_wp2_with fail
  go_ret2
  exact ⟨rfl, rfl⟩

set_option maxRecDepth 100000 in
set_option maxHeartbeats 4000000 in
theorem get_ok (p K n z i : Nat) (of : Nat → Nat) (kn : Kn) (w : World) (hK : K ≤ 20) (hkn : KnOk K z kn) (hof : ∀ i, of i < 2 ^ K) (hz : z ≤ 1000) (hn : n ≤ 40) (hi : i < n) (hbox : BoxAt w p K n z of kn) :
    Calls Try.prog 50 #[.pointer (some ⟨p, 0, none⟩), .int .i64 (i : Int)] w fun e w' => e = .returned (.tuple (if (left kn (of i) (zeroB z)).1 = 0 then #[.string (left kn (of i) (zeroB z)).2, .int .i64 0] else #[.string ⟨#[]⟩, .int .i64 5])) ∧ Below w.heap.size w w' := by
  have hget := bget_ok p K n z i of kn
  generalize left kn (of i) (zeroB z) = L at *
  go_enter Try.func50, Try.ntmps50
  go_wp2_with fail
  refine (hget _ hK hkn hof hz hn hi hbox).mono ?_
  rintro e w1 ⟨rfl, hb⟩
  clear hget hbox
  by_cases h0 : L.1 = 0
  · rw [if_pos h0]
    go_wp2_with fail
    go_ret2
    exact ⟨by first | rfl | (rw [if_pos h0]; rfl), hb⟩
  · rw [if_neg h0]
    go_wp2_with fail
    go_ret2
    exact ⟨by first | rfl | (rw [if_neg h0]; rfl), hb⟩

set_option maxRecDepth 100000 in
set_option maxHeartbeats 4000000 in
theorem need_any (p K n z : Nat) (of : Nat → Nat) (kn : Kn) (w : World) (hK : K ≤ 20) (hbox : BoxAt w p K n z of kn) :
    Calls Try.prog 49 #[.pointer (some ⟨p, 0, none⟩)] w fun e w' => e = .returned (.int .i64 (openK kn K : Int)) ∧ w' = w := by
  go_enter Try.func49, Try.ntmps49
  go_wp2_with fail
  refine (bneed_any p K n z of kn _ hK hbox).mono ?_
  rintro e w1 ⟨rfl, rfl⟩
  go_wp2_with fail
  go_ret
  exact ⟨rfl, rfl⟩

theorem put_arg (p K n z : Nat) (i : Int) (t : ByteArray) (of : Nat → Nat) (kn : Kn) (w : World) (hi : i < 0 ∨ (n : Int) ≤ i) (hbox : BoxAt w p K n z of kn) :
    Calls Try.prog 48 #[.pointer (some ⟨p, 0, none⟩), .int .i64 i, .string t] w fun e w' => e = .returned (.int .i64 2) ∧ w' = w := by
  go_enter Try.func48, Try.ntmps48
  go_wp2_with fail
  refine (bput_arg p K n z i t of kn _ hi hbox).mono ?_
  rintro e w1 ⟨rfl, rfl⟩
  go_wp2_with fail
  go_ret
  exact ⟨rfl, rfl⟩

theorem put_shape (p K n z i : Nat) (t : ByteArray) (of : Nat → Nat) (kn : Kn) (w : World) (hi : i < n) (ht : t.size ≠ z) (hbox : BoxAt w p K n z of kn) :
    Calls Try.prog 48 #[.pointer (some ⟨p, 0, none⟩), .int .i64 (i : Int), .string t] w fun e w' => e = .returned (.int .i64 3) ∧ w' = w := by
  go_enter Try.func48, Try.ntmps48
  go_wp2_with fail
  refine (bput_shape p K n z i t of kn _ hi ht hbox).mono ?_
  rintro e w1 ⟨rfl, rfl⟩
  go_wp2_with fail
  go_ret
  exact ⟨rfl, rfl⟩

set_option maxRecDepth 100000 in
set_option maxHeartbeats 4000000 in
theorem put_ok (p K n z i : Nat) (t : ByteArray) (of : Nat → Nat) (kn : Kn) (w : World) (hK : K ≤ 20) (hkn : KnOk K z kn) (hof : ∀ i, of i < 2 ^ K) (hz : z ≤ 1000) (hn : n ≤ 40) (hi : i < n) (ht : t.size = z) (hbox : BoxAt w p K n z of kn) :
    Calls Try.prog 48 #[.pointer (some ⟨p, 0, none⟩), .int .i64 (i : Int), .string t] w fun e w' => e = .returned (.int .i64 (putE (left kn (of i) t) z)) ∧ BoxAt w' p K n z of (putK kn (of i) t) ∧ Chg (fun k => k = p) w w' := by
  go_enter Try.func48, Try.ntmps48
  go_wp2_with fail
  refine (bput_ok p K n z i t of kn _ hK hkn hof hz hn hi ht hbox).mono ?_
  rintro e w1 ⟨rfl, hb, hc⟩
  go_wp2_with fail
  go_ret
  exact ⟨rfl, hb, hc⟩

end Go.Proofs.Ytnjaofkieajnlaa

/- The document's own boxes in memory; Get; what Put makes of them. -/
namespace Go.Proofs.Ytnjaofkieajnlaa
open Go.RowKit

end Go.Proofs.Ytnjaofkieajnlaa

namespace Go.Proofs.Ytnjaofkieajnlaa
open Go.RowKit

/-- The blocks of such a box. -/
def fpR (r : Nat) (av pv : Value) (k : Nat) : Prop := k = r ∨ av.ownBlock = some k ∨ pv.ownBlock = some k

theorem owns_nums {w : World} {base : Nat} {v : Value} {l : List Nat} {n : Nat} (h : w.ownsRow base 3 1 v n (numsV l)) (hn : n = l.length) : NumsAt w v l := by
  subst hn
  rcases owns_cells h with ⟨rfl, rfl⟩ | ⟨g, cap, rfl, h1, hcell⟩
  · exact ⟨none, 0, rfl, Nat.le_refl _, fun k hk => by simp at hk⟩
  · refine ⟨_, cap, rfl, h1, fun k hk => ⟨g, 0, rfl, (h.lt g rfl).2, ?_⟩⟩
    rw [Nat.zero_add]; exact hcell k hk

/-- Blocks of two types are two. -/
theorem owns_other {w : World} {base : Nat} {e t : TypeId} {size n k : Nat} {v : Value} {xs : List Value} {cs : Array Value} {fr : Nat × Nat} (h : w.ownsRow base e size v n xs) (hb : w.heap[k]? = some (.cells cs t fr)) (hne : e ≠ t) : v.ownBlock ≠ some k := by
  intro hk
  obtain ⟨cur, hcur⟩ := owns_block h hk
  rw [hb] at hcur
  simp at hcur
  exact hne hcur.2.1.symm

theorem owns_parted {w : World} {b1 b2 : Nat} {e t : TypeId} {s1 s2 n m k : Nat} {v u : Value} {xs ys : List Value} (h : w.ownsRow b1 e s1 v n xs) (h2 : w.ownsRow b2 t s2 u m ys) (hne : e ≠ t) (hk : v.ownBlock = some k) : u.ownBlock ≠ some k := by
  obtain ⟨cur, hcur⟩ := owns_block h hk
  exact owns_other h2 hcur (fun e => hne e.symm)

namespace RBoxAt
variable {w w' w2 : World} {r K M O S z : Nat} {av pv : Value} {ps : List (Nat × ByteArray)}

end RBoxAt

end Go.Proofs.Ytnjaofkieajnlaa

/- The document's own Put. -/
namespace Go.Proofs.Ytnjaofkieajnlaa
open Go.RowKit

end Go.Proofs.Ytnjaofkieajnlaa

namespace Go.Proofs.Ytnjaofkieajnlaa
open Go.RowKit

end Go.Proofs.Ytnjaofkieajnlaa

/- The document's own Need. -/
namespace Go.Proofs.Ytnjaofkieajnlaa
open Go.RowKit

/-- The pieces of the copy that Need fills, ahead of place i. -/
def needPs (K M O S z : Nat) (ps : List (Nat × ByteArray)) : Nat → List (Nat × ByteArray)
  | 0 => ps
  | i + 1 => if (told (boxFacts K M O S z (needPs K M O S z ps i)) (2 ^ i) z).2 then needPs K M O S z ps i else needPs K M O S z ps i ++ [(i, zeroB z)]

theorem boxFacts_snoc (K M O S z : Nat) (ps : List (Nat × ByteArray)) (i : Nat) (t : ByteArray) : boxFacts K M O S z (ps ++ [(i, t)]) = boxFacts K M O S z ps ++ [(2 ^ i, t)] := by
  unfold boxFacts putFacts
  rw [List.map_append, ← List.append_assoc]; rfl

theorem needPs_facts (K M O S z : Nat) (ps : List (Nat × ByteArray)) (i : Nat) : (needTo (boxFacts K M O S z ps) z i).1 = boxFacts K M O S z (needPs K M O S z ps i) := by
  induction i with
  | zero => rfl
  | succ i ih =>
    show (if (told (needTo (boxFacts K M O S z ps) z i).1 (2 ^ i) z).2 = true then needTo (boxFacts K M O S z ps) z i else ((needTo (boxFacts K M O S z ps) z i).1 ++ [(2 ^ i, zeroB z)], (needTo (boxFacts K M O S z ps) z i).2 + 1)).1 = boxFacts K M O S z (if (told (boxFacts K M O S z (needPs K M O S z ps i)) (2 ^ i) z).2 = true then needPs K M O S z ps i else needPs K M O S z ps i ++ [(i, zeroB z)])
    rw [ih]
    split
    · exact ih
    · rw [boxFacts_snoc]

theorem needTo_succ (K M O S z : Nat) (ps : List (Nat × ByteArray)) (i : Nat) : (needTo (boxFacts K M O S z ps) z (i + 1)).2 = if (told (boxFacts K M O S z (needPs K M O S z ps i)) (2 ^ i) z).2 = true then (needTo (boxFacts K M O S z ps) z i).2 else (needTo (boxFacts K M O S z ps) z i).2 + 1 := by
  show (if (told (needTo (boxFacts K M O S z ps) z i).1 (2 ^ i) z).2 = true then needTo (boxFacts K M O S z ps) z i else ((needTo (boxFacts K M O S z ps) z i).1 ++ [(2 ^ i, zeroB z)], (needTo (boxFacts K M O S z ps) z i).2 + 1)).2 = _
  rw [needPs_facts]
  split <;> rfl

theorem needTo_le (F : List Fct) (z i : Nat) : (needTo F z i).2 ≤ i := by
  induction i with
  | zero => exact Nat.le_refl _
  | succ i ih =>
    show (if (told (needTo F z i).1 (2 ^ i) z).2 = true then needTo F z i else ((needTo F z i).1 ++ [(2 ^ i, zeroB z)], (needTo F z i).2 + 1)).2 ≤ i + 1
    split
    · omega
    · show (needTo F z i).2 + 1 ≤ i + 1; omega

theorem needPs_len (K M O S z : Nat) (ps : List (Nat × ByteArray)) (i : Nat) : (needPs K M O S z ps i).length ≤ ps.length + i := by
  induction i with
  | zero => exact Nat.le_refl _
  | succ i ih =>
    show (if _ then needPs K M O S z ps i else needPs K M O S z ps i ++ [(i, zeroB z)]).length ≤ _
    split
    · omega
    · rw [List.length_append]; simp; omega

theorem needPs_in (K M O S z : Nat) (ps : List (Nat × ByteArray)) (h : ∀ x ∈ ps, x.1 < K + M ∧ x.2.size = z) (i : Nat) (hi : i ≤ K + M) : ∀ x ∈ needPs K M O S z ps i, x.1 < K + M ∧ x.2.size = z := by
  induction i with
  | zero => exact h
  | succ i ih =>
    intro x hx
    have hx' : x ∈ (if (told (boxFacts K M O S z (needPs K M O S z ps i)) (2 ^ i) z).2 = true then needPs K M O S z ps i else needPs K M O S z ps i ++ [(i, zeroB z)]) := hx
    split at hx'
    · exact ih (by omega) x hx'
    · rcases List.mem_append.1 hx' with hx' | hx'
      · exact ih (by omega) x hx'
      · simp at hx'; subst hx'; exact ⟨by show i < K + M; omega, zeroB_size z⟩

end Go.Proofs.Ytnjaofkieajnlaa

namespace Go.Proofs.Ytnjaofkieajnlaa
open Go.RowKit

theorem owns_news {w : World} {base : Nat} {e : TypeId} {g n cap : Nat} {xs : List Value} (h : w.ownsRow base e 1 (.slice (some ⟨g, 0, none⟩) n cap) n xs) : ∀ j u, xs[j]? = some u → w.cell? ((⟨g, 0, none⟩ : Addr).add j) = some u := by
  intro j u hu
  rw [Addr.add_mid, Nat.zero_add]
  rcases h.2 with ⟨h0, _⟩ | ⟨g', cap', cur, he, _, hg, hc, _, _, ht⟩
  · cases h0
  · have : g' = g := by simp at he; exact he.1.symm
    subst this
    rw [cell_of_row _ _ _ _ _ _ hg]
    rw [← ht, List.getElem?_take] at hu
    split at hu
    · simpa using hu
    · cases hu

/-- A call that leaves the world as it was, at a step of a region that draws its order. -/
theorem step_call {P : Program} {w : World} {ops : Array Oper} {o : Oper} {a : Act} {K : Act → World → Prop} {Q : Exit → Act → World → Prop} {E : Prop} (hgd : o.guard = none) (f : FuncId) (args : Array Value) (hrun : (execOp a.eval o).run P w = .ok (.enter f args) w) (v : Value)
    (hc : Calls P f args w fun e w' => e = .returned v ∧ w' = w) (h : K (a.put o.dst v) w) : if Region.wanted o (yielded ops a.tmps) = true then Oper.wp P o a w K Q else E := by
  have hw : Region.wanted o (yielded ops a.tmps) = true := by simp [Region.wanted, hgd]
  rw [if_pos hw]
  unfold Oper.wp
  rw [hrun, Oper.upon_enter]
  refine hc.mono fun e w'' hh => ?_
  obtain ⟨rfl, rfl⟩ := hh
  exact h

end Go.Proofs.Ytnjaofkieajnlaa

/- The document's own catcher: Wants and Object. -/
namespace Go.Proofs.Ytnjaofkieajnlaa
open Go.RowKit

end Go.Proofs.Ytnjaofkieajnlaa

/- The document's own catcher: its object. -/
namespace Go.Proofs.Ytnjaofkieajnlaa
open Go.RowKit

/-- What is told of the first pieces. -/
def gotTo (F : Nat → ByteArray × Bool) : Nat → List ByteArray
  | 0 => []
  | i + 1 => gotTo F i ++ [(F i).1]

theorem gotTo_length (F : Nat → ByteArray × Bool) (i : Nat) : (gotTo F i).length = i := by
  induction i with
  | zero => rfl
  | succ i ih => show (gotTo F i ++ [_]).length = _; rw [List.length_append, ih]; rfl

theorem gotTo_size (F : Nat → ByteArray × Bool) (z : Nat) (h : ∀ i, (F i).1.size = z) (i : Nat) : ∀ x ∈ gotTo F i, x.size = z := by
  induction i with
  | zero => intro x hx; simp [gotTo] at hx
  | succ i ih =>
    intro x hx
    rcases List.mem_append.1 (show x ∈ gotTo F i ++ [(F i).1] from hx) with hx | hx
    · exact ih x hx
    · simp at hx; subst hx; exact h i

theorem catTo_size (l : List ByteArray) (z : Nat) (h : ∀ x ∈ l, x.size = z) (i : Nat) (hi : i ≤ l.length) : (catTo l i).size = i * z := by
  induction i with
  | zero => simp [catTo]
  | succ i ih =>
    show (catTo l i ++ l.getD i ByteArray.empty).size = _
    have hm : (l.getD i ByteArray.empty) ∈ l := by rw [List.getD_eq_getElem?_getD, List.getElem?_eq_getElem (by omega)]; exact List.getElem_mem _
    rw [ByteArray.size_append, ih (by omega), h _ hm, Nat.succ_mul]

end Go.Proofs.Ytnjaofkieajnlaa

/- The document's own read: small facts. -/
namespace Go.Proofs.Ytnjaofkieajnlaa
open Go.RowKit

theorem Try.sizeSpecR : (Try.prog.info? 23).map (·.size) = some 4 := by kernel_rfl

theorem spec_one (K M O S : Int) : (#[.int .i64 K, .int .i64 M, .int .i64 O, .int .i64 S] : Array Value).all (fun x => x.oneCell') = true := by
  simp [Value.oneCell']

end Go.Proofs.Ytnjaofkieajnlaa

/- The document's own read: what lies in a packet. -/
namespace Go.Proofs.Ytnjaofkieajnlaa
open Go.RowKit

theorem or_high (a b : Nat) (ha : a < 256) (hb : b < 256) : bits BinOp.or IntKind.i64 (a : Int) ((b : Int) * 256) = ((a + 256 * b : Nat) : Int) := by
  rw [show (b : Int) * 256 = ((b * 256 : Nat) : Int) by omega, i64_or_nat a (b * 256) (by omega) (by omega)]
  rw [Nat.or_comm, show b * 256 = 2 ^ 8 * b by omega, ← Nat.two_pow_add_eq_or_of_lt (by omega)]
  congr 1; omega

/-- What must hold of what can be read of a packet. -/
def ReadsOk (p : ByteArray) (K M O S z i : Nat) (q : ByteArray) : Prop := mayB K M O S = true ∧ i < K + M ∧ q.size = z ∧ packB K M O S z i q = p

end Go.Proofs.Ytnjaofkieajnlaa

/- What is a packet: plain facts on bytes. Nothing of the program. -/
namespace Go.Proofs.Ytnjaofkieajnlaa

theorem byteAt_left (a b : ByteArray) (i : Nat) (h : i < a.size) : byteAt (a ++ b) i = byteAt a i := by
  have h2 : i < (a ++ b).size := by rw [ByteArray.size_append]; omega
  rw [← byteAt_get _ _ h2, ← byteAt_get _ _ h, ByteArray.getElem_append_left h]

theorem byteAt_right (a b : ByteArray) (i : Nat) (h1 : a.size ≤ i) (h : i < a.size + b.size) : byteAt (a ++ b) i = byteAt b (i - a.size) := by
  have h2 : i < (a ++ b).size := by rw [ByteArray.size_append]; omega
  have h3 : i - a.size < b.size := by omega
  rw [← byteAt_get _ _ h2, ← byteAt_get _ _ h3, ByteArray.getElem_append_right h1]

theorem byteAt_extract (a : ByteArray) (m n i : Nat) (hn : n ≤ a.size) (h : m + i < n) : byteAt (a.extract m n) i = byteAt a (m + i) := by
  have h2 : i < (a.extract m n).size := by rw [ByteArray.size_extract]; omega
  rw [← byteAt_get _ _ h2, ← byteAt_get _ _ (show m + i < a.size by omega), ByteArray.getElem_extract]

/-- What the bytes of a text tell. -/
def rK (p : ByteArray) : Nat := (byteAt p 1).toNat
def rM (p : ByteArray) : Nat := (byteAt p 2).toNat
def rO (p : ByteArray) : Nat := (byteAt p 3).toNat
def rS (p : ByteArray) : Nat := (byteAt p 4).toNat + 256 * (byteAt p 5).toNat
def rZ (p : ByteArray) : Nat := (byteAt p 6).toNat
def rI (p : ByteArray) : Nat := (byteAt p 7).toNat
def rQ (p : ByteArray) : ByteArray := p.extract 8 (p.size - 1)

/-- A text is a packet. -/
def PacketOk (p : ByteArray) : Prop := 10 ≤ p.size ∧ p.size ≤ 25 ∧ byteAt p 0 = 82 ∧ mayB (rK p) (rM p) (rO p) (rS p) = true ∧ rI p < rK p + rM p ∧ p.size = rZ p + 9 ∧ addTo p p.size = 0

theorem addTo_congr (a b : ByteArray) (n : Nat) (h : ∀ i, i < n → byteAt a i = byteAt b i) : addTo a n = addTo b n := by
  induction n with
  | zero => rfl
  | succ n ih =>
    show addTo a n + byteAt a n = addTo b n + byteAt b n
    rw [ih (fun i hi => h i (by omega)), h n (by omega)]

theorem ofNat_byte (b : UInt8) : UInt8.ofNat b.toNat = b := by simp

/-- What is read of a text, without its last byte. -/
theorem packT_byte (p : ByteArray) (hp : 10 ≤ p.size) (h0 : byteAt p 0 = 82) : ∀ i, i < p.size - 1 → byteAt (packT (rK p) (rM p) (rO p) (rS p) (rZ p) (rI p) (rQ p)) i = byteAt p i := by
  intro i hi
  have hs : (ByteArray.mk #[82] ++ headB (rK p) (rM p) (rO p) (rS p) (rZ p) (rI p)).size = 8 := rfl
  have hq : (rQ p).size = p.size - 9 := by unfold rQ; rw [ByteArray.size_extract]; omega
  unfold packT
  by_cases h8 : i < 8
  · rw [byteAt_left _ _ _ (by rw [hs]; exact h8)]
    have e4 : UInt8.ofNat (rS p % 256) = byteAt p 4 := by
      have := (byteAt p 4).toNat_lt
      rw [show rS p % 256 = (byteAt p 4).toNat by unfold rS; omega]; simp
    have e5 : UInt8.ofNat (rS p / 256) = byteAt p 5 := by
      have := (byteAt p 4).toNat_lt
      rw [show rS p / 256 = (byteAt p 5).toNat by unfold rS; omega]; simp
    have hb : ByteArray.mk #[82] ++ headB (rK p) (rM p) (rO p) (rS p) (rZ p) (rI p) = ⟨#[82, byteAt p 1, byteAt p 2, byteAt p 3, byteAt p 4, byteAt p 5, byteAt p 6, byteAt p 7]⟩ := by
      unfold headB rK rM rO rZ rI
      rw [e4, e5, ofNat_byte, ofNat_byte, ofNat_byte, ofNat_byte, ofNat_byte]; rfl
    rw [hb]
    have h8' : i = 0 ∨ i = 1 ∨ i = 2 ∨ i = 3 ∨ i = 4 ∨ i = 5 ∨ i = 6 ∨ i = 7 := by omega
    rcases h8' with rfl | rfl | rfl | rfl | rfl | rfl | rfl | rfl
    · exact h0.symm
    all_goals rfl
  · rw [byteAt_right _ _ _ (by rw [hs]; omega) (by rw [hs, hq]; omega), hs]
    unfold rQ
    rw [byteAt_extract _ _ _ _ (by omega) (by omega)]
    congr 1; omega

theorem add_zero_iff (a b : UInt8) : a + b = 0 ↔ b = 0 - a := by
  have h1 := a.toNat_lt
  have h2 := b.toNat_lt
  constructor
  · intro h
    apply UInt8.toNat_inj.1
    have h3 := congrArg UInt8.toNat h
    rw [UInt8.toNat_add] at h3
    rw [UInt8.toNat_sub]
    simp at h3 ⊢
    omega
  · intro h
    apply UInt8.toNat_inj.1
    have h3 := congrArg UInt8.toNat h
    rw [UInt8.toNat_sub] at h3
    rw [UInt8.toNat_add]
    simp at h3 ⊢
    omega

theorem readsOk_iff (p : ByteArray) (hp : 10 ≤ p.size ∧ p.size ≤ 25) : ReadsOk p (rK p) (rM p) (rO p) (rS p) (rZ p) (rI p) (rQ p) ↔ PacketOk p := by
  have hq : (rQ p).size = p.size - 9 := by unfold rQ; rw [ByteArray.size_extract]; omega
  have hts := packT_size (rK p) (rM p) (rO p) (rS p) (rZ p) (rI p) (rQ p)
  have hsz : (packT (rK p) (rM p) (rO p) (rS p) (rZ p) (rI p) (rQ p)).size = p.size - 1 := by rw [hts, hq]; omega
  have hsum : byteAt p 0 = 82 → (addTo p p.size = 0 ↔ byteAt p (p.size - 1) = chkTo (packT (rK p) (rM p) (rO p) (rS p) (rZ p) (rI p) (rQ p)) (packT (rK p) (rM p) (rO p) (rS p) (rZ p) (rI p) (rQ p)).size) := fun h0 => by
    have hb := packT_byte p hp.1 h0
    rw [chk_add, hsz, addTo_congr _ p _ hb]
    have h1 : addTo p p.size = addTo p (p.size - 1) + byteAt p (p.size - 1) := by
      obtain ⟨n, hn⟩ : ∃ n, p.size = n + 1 := ⟨p.size - 1, by omega⟩
      rw [hn]; rfl
    rw [h1]
    exact add_zero_iff _ _
  constructor
  · rintro ⟨hm, hi, hz, hpk⟩
    have h0 : byteAt p 0 = 82 := by
      rw [← hpk]; unfold packB
      rw [byteAt_left _ _ _ (by rw [hts]; omega)]
      unfold packT
      rw [byteAt_left _ _ _ (by show 0 < 8; omega)]; rfl
    refine ⟨hp.1, hp.2, h0, hm, hi, by omega, (hsum h0).2 ?_⟩
    have h1 : byteAt (packB (rK p) (rM p) (rO p) (rS p) (rZ p) (rI p) (rQ p)) (p.size - 1) = byteAt p (p.size - 1) := by rw [hpk]
    rw [← h1]
    unfold packB
    rw [byteAt_right _ _ _ (by omega) (by rw [hsz]; show p.size - 1 < p.size - 1 + 1; omega), hsz, Nat.sub_self]; rfl
  · rintro ⟨_, _, h0, hm, hi, hz, hs⟩
    refine ⟨hm, hi, by omega, ?_⟩
    have hb := packT_byte p hp.1 h0
    have hl := (hsum h0).1 hs
    rw [hsz] at hl
    unfold packB
    generalize packT (rK p) (rM p) (rO p) (rS p) (rZ p) (rI p) (rQ p) = T at *
    refine bytes_ext (by rw [ByteArray.size_append, hsz]; show p.size - 1 + 1 = p.size; omega) (fun i hi2 => ?_)
    rw [ByteArray.size_append, hsz] at hi2
    have hi3 : i < p.size - 1 + 1 := hi2
    by_cases hlt : i < p.size - 1
    · rw [byteAt_left _ _ _ (by omega)]; exact hb i hlt
    · have : i = p.size - 1 := by omega
      subst this
      rw [byteAt_right _ _ _ (by omega) (by rw [hsz]; show p.size - 1 < p.size - 1 + 1; omega), hsz, Nat.sub_self, hl]; rfl

end Go.Proofs.Ytnjaofkieajnlaa
