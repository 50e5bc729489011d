/- Texts of the proof, part 9. -/
import Derived.Deep.MidRow
import Derived.Laws.Bits64b
import Derived.Test.YtnjaofkieajnlaaGreatTakenG0
import Derived.Test.YtnjaofkieajnlaaGreatTakenG1
import Derived.Test.YtnjaofkieajnlaaGreatTakenG3
import Derived.Test.YtnjaofkieajnlaaGreatTakenG6
import Derived.Test.YtnjaofkieajnlaaGreatTakenG7
import Derived.WalkKit

/- Fits: the program's and the document's own. -/
namespace Go.Proofs.YtnjaofkieajnlaaGreat
open Go.RowKit

/-- In each row the pieces sum to noughts. -/
def Fit (K M O S : Nat) (l : List ByteArray) (size : Nat) : Prop := ∀ i, i < M → sumB l (rowOf K M O S i) size = zeroB size

/-- The answer tells whether p, with no error. -/
def Tells2 (p : Prop) (e : Ending) : Prop := ∃ b, e = .returned (.tuple #[.bool b, .int .i64 0]) ∧ (p → b = true) ∧ (¬ p → b = false)

theorem beq_bytes {a b : ByteArray} (h : a ≠ b) : (a.toList == b.toList) = false := by
  rw [ByteArray.toList_eq, ByteArray.toList_eq]
  apply beq_eq_false_iff_ne.2
  intro e
  apply h
  cases a; cases b
  congr
  exact Array.toList_inj.1 e

set_option maxRecDepth 100000 in
set_option maxHeartbeats 1000000 in
theorem wfits_bad (K M O S : Int) (v : Value) (w : World) (hmay : mayB K M O S = false) :
    Calls Tryz.prog 110 #[specV K M O S, v] w fun e w' => e = .returned (.tuple #[.bool false, .int .i64 1]) ∧ Below w.heap.size w w' := by
  go_enter Tryz.func110, Tryz.ntmps110
  go_wp2_with fail
  refine (wrows_bad K M O S _ hmay).mono ?_
  rintro e w1 ⟨rfl, hb⟩
  have hb1 : Below w.heap.size w w1 := ((Below.refl _ _).alloc (Nat.le_refl _) _).trans (hb.mono (by simp))
  clear hb
  go_wp2
  go_ret2
  exact ⟨rfl, hb1⟩

set_option maxRecDepth 100000 in
set_option maxHeartbeats 1000000 in
theorem wfits_shape (K M O S : Nat) (v : Value) (l : List ByteArray) (w : World) (hK : 1 ≤ K ∧ K ≤ 20) (hM : 1 ≤ M ∧ M ≤ 20) (hO : 1 ≤ O ∧ O ≤ M) (hS : S ≤ 65535) (hl : l.length ≤ 8796093022208) (hsh : ¬ Shaped l (K + M)) (ht : TextsAt w v l) :
    Calls Tryz.prog 110 #[specV K M O S, v] w fun e w' => e = .returned (.tuple #[.bool false, .int .i64 3]) ∧ Below w.heap.size w w' := by
  have HT := hide ht
  have Hsh := hide hsh
  clear ht hsh
  go_enter Tryz.func110, Tryz.ntmps110
  go_wp2_with fail
  refine (wrows_ok K M O S _ hK hM hO hS).mono ?_
  rintro e w1 ⟨g, rv, rfl, hr, hg, hb⟩
  have hs1 := block_on (heap_alloc_new w _) hb
  have hb1 : Below w.heap.size w w1 := ((Below.refl _ _).alloc (Nat.le_refl _) _).trans (hb.mono (by simp))
  obtain ⟨c0, c1, c2, c3⟩ := spec_cellsI hs1
  clear hb hr hg
  go_wp2_with fail
  rw [show (K : Int) + (M : Int) = ((K + M : Nat) : Int) from by omega]
  refine (sizeOf_any _ l (K + M) _ (by omega) (by omega) (HT.out.on hb1)).mono ?_
  rintro e w2 ⟨⟨r, rfl, _, hno⟩, rfl⟩
  obtain rfl := hno Hsh.out
  go_wp2
  go_ret2
  exact ⟨rfl, hb1⟩

set_option maxRecDepth 100000 in
set_option maxHeartbeats 2000000 in
theorem wfits_ok (K M O S : Nat) (v : Value) (l : List ByteArray) (w : World) (hK : 1 ≤ K ∧ K ≤ 20) (hM : 1 ≤ M ∧ M ≤ 20) (hO : 1 ≤ O ∧ O ≤ M) (hS : S ≤ 65535) (hsh : Shaped l (K + M)) (ht : TextsAt w v l) :
    Calls Tryz.prog 110 #[specV K M O S, v] w fun e w' => Tells2 (Fit K M O S l (l.getD 0 ByteArray.empty).size) e ∧ Below w.heap.size w w' := by
  have hlK := hsh.1
  have HT := hide ht
  have Hsh := hide hsh
  have Hl := hide hlK
  clear ht hsh hlK
  go_enter Tryz.func110, Tryz.ntmps110
  go_wp2_with fail
  refine (wrows_ok K M O S _ hK hM hO hS).mono ?_
  rintro e w1 ⟨g, rv, rfl, hr, hg, hb⟩
  have hs1 := block_on (heap_alloc_new w _) hb
  have hb1 : Below w.heap.size w w1 := ((Below.refl _ _).alloc (Nat.le_refl _) _).trans (hb.mono (by simp))
  obtain ⟨c0, c1, c2, c3⟩ := spec_cellsI hs1
  clear hb hg
  go_wp2_with fail
  rw [show (K : Int) + (M : Int) = ((K + M : Nat) : Int) from by omega]
  refine (sizeOf_any _ l (K + M) _ (by omega) (by rw [Hl.out]; omega) (HT.out.on hb1)).mono ?_
  rintro e w2 ⟨⟨r, rfl, hyes, _⟩, rfl⟩
  obtain ⟨hre, hr1, hr16⟩ := hyes Hsh.out
  have hr0 : ((r : Int) == 0) = false := by simp; omega
  have Hre := hide hre
  clear hyes hre
  go_wp2_with fail
  refine (sum_any (.slice none 0 0) (.slice none 0 0) [] [] r 0 _ (by simp) (fun j hj => by simp at hj) (by omega) (fun x hx => by simp at hx) (World.ownsRow_nil _ _ _ _) ⟨none, 0, rfl, Nat.le_refl _, fun k hk => by simp at hk⟩).mono ?_
  rintro e w3 ⟨rfl, hb3⟩
  have hb4 := hb1.trans (hb3.mono hb1.size)
  have hr3 := hr.below hb3
  rw [show sumB [] [] r = zeroB r from rfl]
  clear c0 c1 c2 c3 hs1 hb3 hr hb1
  go_wp2_with fail
  go_loopw [34] (fun t wr => ∃ i : Nat, i ≤ M ∧ t = .int .i64 i ∧ (∀ j, j < i → sumB l (rowOf K M O S j) r = zeroB r) ∧ Below w3.heap.size w3 wr) (fun t _ => M - (intOf t).toNat)
  case atStart => exact ⟨0, Nat.zero_le _, rfl, fun j hj => by omega, Below.refl _ _⟩
  case round =>
    obtain ⟨i, hiM, rfl, hall, hbel⟩ := hrel
    have Hall := hide hall
    clear hall
    have hbw := hb4.trans (hbel.mono hb4.size)
    by_cases hlt : i < M
    · have hrr := hr3.below hbel
      have hrc := hrr.cell hlt
      have hrl := rowOf_len K M O S i
      go_wp2_with fail
      refine (sum_any v (rv i) l (rowOf K M O S i) r _ _ (by omega) (fun j hj => by have := rowOf_lt K M O S i j hj; omega) (by omega) (fun x hx => ?hx) (hrr.own i hlt) (HT.out.on hbw)).mono ?_
      case hx => rw [Hre.out]; exact Hsh.out.sizes x hx
      rintro e w5 ⟨rfl, hb5⟩
      have hb6 := hbel.trans (hb5.mono hbel.size)
      generalize htt : sumB l (rowOf K M O S i) r = tt at *
      have Ht := hide htt
      clear htt hrr hrc hb5
      by_cases he : tt = zeroB r
      · subst he
        clear hbel hbw
        go_wp2
        go_roundw
        case rel =>
          refine ⟨i + 1, by omega, by go_num, fun j hj => ?_, hb6⟩
          by_cases e : j = i
          · subst e; exact Ht.out
          · exact Hall.out j (by omega)
        case measure => simp [intOf]; omega
      · have hneq := beq_bytes he
        have hno : ¬ Fit K M O S l (l.getD 0 ByteArray.empty).size := fun h => he (by rw [← Ht.out]; have := h i hlt; rw [← Hre.out] at this; exact this)
        have Hno := hide hno
        have hb7 := hb4.trans (hb6.mono hb4.size)
        clear he hno
        go_wp2
        go_ret2
        exact ⟨⟨false, rfl, fun h => absurd h Hno.out, fun _ => rfl⟩, hb7⟩
    · go_wp2
      go_ret2
      refine ⟨⟨true, rfl, fun _ => rfl, fun h => absurd (fun j hj => ?_) h⟩, hbw⟩
      rw [← Hre.out]
      exact Hall.out j (by omega)

set_option maxRecDepth 100000 in
set_option maxHeartbeats 2000000 in
theorem rfits_ok (K M O S : Nat) (v : Value) (l : List ByteArray) (w : World) (hK : 1 ≤ K ∧ K ≤ 20) (hM : 1 ≤ M ∧ M ≤ 20) (hO : 1 ≤ O ∧ O ≤ M) (hS : S ≤ 65535) (hsh : Shaped l (K + M)) (ht : TextsAt w v l) :
    Calls Tryz.prog 82 #[specV K M O S, v] w fun e w' => Tells (Fit K M O S l (l.getD 0 ByteArray.empty).size) e ∧ Below w.heap.size w w' := by
  have hlK := hsh.1
  have HT := hide ht
  have Hsh := hide hsh
  have hr1 := (hsh.2 0 (by omega)).2
  generalize hr : (l.getD 0 ByteArray.empty).size = r at *
  have Hr := hide hr
  clear ht hsh hr
  go_enter Tryz.func82, Tryz.ntmps82
  go_wp2_with fail
  refine (rrows_ok K M O S _ hK hM hO hS).mono ?_
  rintro e w1 ⟨g, rv, rfl, hr3, hg, hb⟩
  have hb1 : Below w.heap.size w w1 := ((Below.refl _ _).alloc (Nat.le_refl _) _).trans (hb.mono (by simp))
  clear hb hg
  go_wp2_with fail
  go_loopw [11] (fun t wr => ∃ i : Nat, i ≤ M ∧ t = .int .i64 i ∧ (∀ j, j < i → sumB l (rowOf K M O S j) r = zeroB r) ∧ Below w1.heap.size w1 wr) (fun t _ => M - (intOf t).toNat)
  case atStart => exact ⟨0, Nat.zero_le _, rfl, fun j hj => by omega, Below.refl _ _⟩
  case round =>
    obtain ⟨i, hiM, rfl, hall, hbel⟩ := hrel
    have Hall := hide hall
    clear hall
    have hbw := hb1.trans (hbel.mono hb1.size)
    by_cases hlt : i < M
    · have hrr := hr3.below hbel
      have hrc := hrr.cell hlt
      have hrl := rowOf_len K M O S i
      go_wp2_with fail
      refine (total_any v (rv i) l (rowOf K M O S i) r _ _ (by omega) (by omega) (by omega) (by omega) (fun x hx => ?hx) (fun j hj => by have := rowOf_lt K M O S i j hj; omega) (hrr.own i hlt) (HT.out.on hbw)).mono ?_
      case hx => rw [← Hr.out]; exact Hsh.out.sizes x hx
      rintro e w5 ⟨rfl, hb5⟩
      have hb6 := hbel.trans (hb5.mono hbel.size)
      have hts : (sumB l (rowOf K M O S i) r).size = r := sumB_size (fun x hx => by rw [← Hr.out]; exact Hsh.out.sizes x hx) _
      generalize htt : sumB l (rowOf K M O S i) r = tt at *
      have Ht := hide htt
      clear htt hrr hrc hb5
      go_wp2_with fail
      refine (noughts_any r _ (by omega)).mono ?_
      rintro e w6 ⟨rfl, rfl⟩
      by_cases he : tt = zeroB r
      · subst he
        clear hbel hbw hts
        go_wp2
        go_roundw
        case rel =>
          refine ⟨i + 1, by omega, by go_num, fun j hj => ?_, hb6⟩
          by_cases e : j = i
          · subst e; exact Ht.out
          · exact Hall.out j (by omega)
        case measure => simp [intOf]; omega
      · have hneq := beq_bytes he
        have hno : ¬ Fit K M O S l r := fun h => he (by rw [← Ht.out]; exact h i hlt)
        have Hno := hide hno
        have hb7 := hb1.trans (hb6.mono hb1.size)
        clear he hno hts
        go_wp2
        go_ret
        exact ⟨⟨false, rfl, fun h => absurd h Hno.out, fun _ => rfl⟩, hb7⟩
    · go_wp2
      go_ret
      exact ⟨⟨true, rfl, fun _ => rfl, fun h => absurd (fun j hj => Hall.out j (by omega)) h⟩, hbw⟩

end Go.Proofs.YtnjaofkieajnlaaGreat

/- The makers of the statements without the document's answer: pick, spec, pieces, word. -/
namespace Go.Proofs.YtnjaofkieajnlaaGreat
open Go.RowKit

/-- The number that a raw one speaks of. -/
def rawOf (c : Int) : Int := if c < 0 then -(c + 1) else c

theorem rawOf_bd (c : Int) (h1 : -9223372036854775808 ≤ c) (h2 : c ≤ 9223372036854775807) : 0 ≤ rawOf c ∧ rawOf c ≤ 9223372036854775807 := by
  unfold rawOf; split <;> omega

/-- A specification that may be, and a size. -/
structure SpecOk (K M O S z : Nat) : Prop where
  hK : 1 ≤ K ∧ K ≤ 20
  hM : 1 ≤ M ∧ M ≤ 20
  hO : 1 ≤ O ∧ O ≤ M
  hS : S ≤ 65535
  hz : 1 ≤ z ∧ z ≤ 16

/-- The same of whole numbers. -/
structure SpecOkI (K M O S z : Int) : Prop where
  hK : 1 ≤ K ∧ K ≤ 20
  hM : 1 ≤ M ∧ M ≤ 20
  hO : 1 ≤ O ∧ O ≤ M
  hS : 0 ≤ S ∧ S ≤ 65535
  hz : 1 ≤ z ∧ z ≤ 16

end Go.Proofs.YtnjaofkieajnlaaGreat

/- Steps of a script, as values and as they are read; the statement's own pick. -/
namespace Go.Proofs.YtnjaofkieajnlaaGreat
open Go.RowKit

/-- The statement's world, as its block holds it. -/
abbrev worldB (bsv : Value) : Obj := .cells #[.int .i64 0, .bool false, .slice none 0 0, .slice none 0 0, .slice none 0 0, .slice none 0 0, bsv, .slice none 0 0, .slice none 0 0, .slice none 0 0, .slice none 0 0, .slice none 0 0, .slice none 0 0, .slice none 0 0] 39 (0, 0)

/-- A step as a value, and as a block. -/
abbrev opC (k a b c K M O S : Int) (s : ByteArray) (lv : Value) : Array Value := #[.int .i64 k, .int .i64 a, .int .i64 b, .int .i64 c, .int .i64 K, .int .i64 M, .int .i64 O, .int .i64 S, .string s, lv]

theorem op_cells {w : World} {q : Nat} {k a b c K M O S : Int} {s : ByteArray} {lv : Value} {t : TypeId} (h : w.heap[q]? = some (.cells (opC k a b c K M O S s lv) t (0, 0))) :
    w.cell? ⟨q, 0, none⟩ = some (.int .i64 k) ∧ w.cell? ⟨q, 1, none⟩ = some (.int .i64 a) ∧ w.cell? ⟨q, 2, none⟩ = some (.int .i64 b) ∧ w.cell? ⟨q, 4, none⟩ = some (.int .i64 K) ∧ w.cell? ⟨q, 5, none⟩ = some (.int .i64 M) ∧ w.cell? ⟨q, 6, none⟩ = some (.int .i64 O) ∧ w.cell? ⟨q, 7, none⟩ = some (.int .i64 S) ∧ w.cell? ⟨q, 8, none⟩ = some (.string s) := by
  refine ⟨?_, ?_, ?_, ?_, ?_, ?_, ?_, ?_⟩ <;> rw [cell_of_row _ _ _ _ _ _ h] <;> rfl

set_option maxRecDepth 100000 in
set_option maxHeartbeats 400000 in
theorem lpick_any (c n : Int) (w : World) (h1 : -9223372036854775808 ≤ c) (h2 : c ≤ 9223372036854775807) (hn : 1 ≤ n) :
    Calls Tryz.prog 25 #[.int .i64 c, .int .i64 n] w fun e w' => e = .returned (.int .i64 (rawOf c % n)) ∧ w' = w := by
  by_cases hc : c < 0
  · have hr : rawOf c = -(c + 1) := by simp [rawOf, hc]
    rw [hr]
    clear hr
    go_enter Tryz.func25, Tryz.ntmps25
    go_wp2
    go_ret
    exact ⟨ret_int (by rw [← Int.neg_tmod, Int.tmod_eq_emod_of_nonneg (by omega)]), rfl⟩
  · have hr : rawOf c = c := by simp [rawOf, hc]
    rw [hr]
    clear hr
    go_enter Tryz.func25, Tryz.ntmps25
    go_wp2
    go_ret
    exact ⟨rfl, rfl⟩

theorem pick_place' (c : Int) (n : Nat) (hn : 0 < n) : rawOf c % (n : Int) = (placeOf n c : Int) := by
  unfold placeOf rawOf
  have h1 := Int.emod_nonneg (if c < 0 then -(c + 1) else c) (show (n : Int) ≠ 0 by omega)
  omega

/-- A step of a script. -/
structure OpR where
  k : Int
  a : Int
  b : Int
  c : Int
  K : Int
  M : Int
  O : Int
  S : Int
  s : ByteArray
  lv : Value

def OpR.none : OpR := ⟨0, 0, 0, 0, 0, 0, 0, 0, ByteArray.empty, .slice .none 0 0⟩

def OpR.cells (r : OpR) : List Value := [.int .i64 r.k, .int .i64 r.a, .int .i64 r.b, .int .i64 r.c, .int .i64 r.K, .int .i64 r.M, .int .i64 r.O, .int .i64 r.S, .string r.s, r.lv]

/-- A script that came in, as it is read. -/
def OpsAt (w : World) (v : Value) (l : List OpR) : Prop :=
  ∃ ao cap, v = .slice ao l.length cap ∧ l.length ≤ cap ∧ ∀ i, i < l.length → ∃ q o, ao = some ⟨q, o, none⟩ ∧ q < w.heap.size ∧ w.rangeAt q (o + i * 10) (l.getD i OpR.none).cells ∧ -9223372036854775808 ≤ (l.getD i OpR.none).a ∧ (l.getD i OpR.none).a ≤ 9223372036854775807

theorem range_below {w w' : World} {n q o : Nat} {cs : List Value} (h : w.rangeAt q o cs) (hb : Below n w w') (hq : q < n) : w'.rangeAt q o cs := fun j v hv => by
  rw [hb.cell (p := ⟨q, o + j, none⟩) hq]; exact h j v hv

theorem Tryz.sizeOp : (Tryz.prog.info? 29).map (·.size) = some 10 := by kernel_rfl

end Go.Proofs.YtnjaofkieajnlaaGreat

/- Go's own bit operations on ints that are no less than nought, as numbers. Nothing of the program. -/
namespace Go.Proofs.YtnjaofkieajnlaaGreat

theorem ofInt64 (a : Nat) (ha : a < 9223372036854775808) : (BitVec.ofInt 64 (a : Int)).toNat = a := by
  rw [BitVec.ofInt_natCast, BitVec.toNat_ofNat]; exact Nat.mod_eq_of_lt (by omega)

theorem wrapNat (n : Nat) (h : n < 9223372036854775808) : IntKind.i64.wrap (n : Int) = (n : Int) := IntWalk.i64_in _ (by omega)

theorem i64_and_nat (a b : Nat) (ha : a < 9223372036854775808) (hb : b < 9223372036854775808) : bits .and .i64 (a : Int) (b : Int) = ((a &&& b : Nat) : Int) := by
  have hx : a &&& b < 2 ^ 63 := Nat.and_lt_two_pow _ (by omega)
  show IntKind.i64.wrap ((BitVec.ofInt 64 (a : Int) &&& BitVec.ofInt 64 (b : Int)).toNat : Int) = _
  rw [BitVec.toNat_and, ofInt64 a ha, ofInt64 b hb]
  exact wrapNat _ (by omega)

theorem i64_or_nat (a b : Nat) (ha : a < 9223372036854775808) (hb : b < 9223372036854775808) : bits .or .i64 (a : Int) (b : Int) = ((a ||| b : Nat) : Int) := by
  have hx : a ||| b < 2 ^ 63 := Nat.or_lt_two_pow (by omega) (by omega)
  show IntKind.i64.wrap ((BitVec.ofInt 64 (a : Int) ||| BitVec.ofInt 64 (b : Int)).toNat : Int) = _
  rw [BitVec.toNat_or, ofInt64 a ha, ofInt64 b hb]
  exact wrapNat _ (by omega)

theorem i64_xor_nat (a b : Nat) (ha : a < 9223372036854775808) (hb : b < 9223372036854775808) : bits .xor .i64 (a : Int) (b : Int) = ((a ^^^ b : Nat) : Int) := by
  have hx : a ^^^ b < 2 ^ 63 := Nat.xor_lt_two_pow (by omega) (by omega)
  show IntKind.i64.wrap ((BitVec.ofInt 64 (a : Int) ^^^ BitVec.ofInt 64 (b : Int)).toNat : Int) = _
  rw [BitVec.toNat_xor, ofInt64 a ha, ofInt64 b hb]
  exact wrapNat _ (by omega)

theorem div_cast (a b : Nat) : (a : Int) / 2 ^ b = ((a / 2 ^ b : Nat) : Int) := by
  rw [Int.natCast_ediv, Int.natCast_pow]; rfl

theorem div_lt (a b : Nat) (h : a < 9223372036854775808) : a / 2 ^ b < 9223372036854775808 := Nat.lt_of_le_of_lt (Nat.div_le_self _ _) h

theorem bit_one (a b : Nat) (h : a < 9223372036854775808) : bits .and .i64 ((a : Int) / 2 ^ b) 1 = if a.testBit b then 1 else 0 := by
  rw [div_cast, show (1 : Int) = ((1 : Nat) : Int) from rfl, i64_and_nat _ _ (div_lt a b h) (by omega), ← Nat.shiftRight_eq_div_pow, Nat.and_one_is_mod, Nat.testBit, Nat.one_and_eq_mod_two]
  rcases Nat.mod_two_eq_zero_or_one (a >>> b) with h | h <;> rw [h] <;> rfl

theorem bit_off (a b : Nat) (h : a < 9223372036854775808) : (bits .and .i64 ((a : Int) / 2 ^ b) 1 == 0) = !(a.testBit b) := by
  rw [bit_one a b h]; cases a.testBit b <;> rfl

theorem bit_on (a b : Nat) (h : a < 9223372036854775808) : (bits .and .i64 ((a : Int) / 2 ^ b) 1 == 1) = a.testBit b := by
  rw [bit_one a b h]; cases a.testBit b <;> rfl

end Go.Proofs.YtnjaofkieajnlaaGreat

/- Lists of facts in memory, and the document's own stairs. -/
namespace Go.Proofs.YtnjaofkieajnlaaGreat
open Go.RowKit

theorem Tryz.infoFact : (Tryz.prog.info? 138).map (fun i => (i.zero, i.size, i.bytes)) = some (some (.agg #[.int .i64 0, .string ByteArray.empty]), 2, 24) := by kernel_rfl

/-- Facts as values: two cells each. -/
def factV : List Fct → List Value
  | [] => []
  | f :: l => .int .i64 (f.1 : Int) :: .string f.2 :: factV l

theorem factV_append (a b : List Fct) : factV (a ++ b) = factV a ++ factV b := by
  induction a with
  | nil => rfl
  | cons f a ih => simp [factV, ih]

theorem factV_length (l : List Fct) : (factV l).length = l.length * 2 := by
  induction l with
  | nil => rfl
  | cons f l ih => simp [factV, ih]; omega

theorem factV_get (l : List Fct) (k : Nat) (h : k < l.length) : (factV l)[k * 2]? = some (.int .i64 ((l.getD k (0, ByteArray.empty)).1 : Int)) ∧ (factV l)[k * 2 + 1]? = some (.string (l.getD k (0, ByteArray.empty)).2) := by
  induction l generalizing k with
  | nil => simp at h
  | cons f l ih =>
    cases k with
    | zero => exact ⟨rfl, rfl⟩
    | succ k =>
      have := ih k (by simpa using h)
      rw [show (k + 1) * 2 = k * 2 + 1 + 1 from by omega]
      exact this

theorem factV_one (l : List Fct) : ∀ u ∈ factV l, u.oneCell' = true := by
  induction l with
  | nil => intro u hu; simp [factV] at hu
  | cons f l ih =>
    intro u hu
    simp only [factV, List.mem_cons] at hu
    rcases hu with rfl | rfl | hu
    · rfl
    · rfl
    · exact ih u hu

/-- A list of facts, as it is read. -/
def FactsAt (w : World) (v : Value) (l : List Fct) : Prop :=
  ∃ ao cap, v = .slice ao l.length cap ∧ l.length ≤ cap ∧ ∀ k, k < l.length → ∃ q, ao = some ⟨q, 0, none⟩ ∧ q < w.heap.size ∧ w.cell? ⟨q, k * 2, none⟩ = some (.int .i64 ((l.getD k (0, ByteArray.empty)).1 : Int)) ∧ w.cell? ⟨q, k * 2 + 1, none⟩ = some (.string (l.getD k (0, ByteArray.empty)).2)

theorem owns_facts {w : World} {base : Nat} {v : Value} {l : List Fct} (h : w.ownsRow base 138 2 v l.length (factV l)) : FactsAt w v l := by
  rcases h.2 with ⟨rfl, hn⟩ | ⟨g, cap, cur, rfl, _, hg, hc, _, _, ht⟩
  · have he : l = [] := List.eq_nil_of_length_eq_zero hn
    subst he
    exact ⟨none, 0, rfl, Nat.le_refl _, fun k hk => absurd hk (Nat.not_lt_zero k)⟩
  · refine ⟨_, cap, rfl, hc, fun k hk => ⟨g, rfl, (Array.getElem?_eq_some_iff.1 hg).1, ?_⟩⟩
    rw [cell_of_row _ _ _ _ _ _ hg, cell_of_row _ _ _ _ _ _ hg]
    obtain ⟨h1, h2⟩ := factV_get l k hk
    rw [← ht, List.getElem?_take, if_pos (by omega)] at h1
    rw [← ht, List.getElem?_take, if_pos (by omega)] at h2
    exact ⟨by simpa using h1, by simpa using h2⟩

theorem FactsAt.on {w w1 : World} {v : Value} {l : List Fct} {n : Nat} (h : FactsAt w v l) (hn : w.heap.size ≤ n) (hb : Below n w w1) : FactsAt w1 v l := by
  obtain ⟨ao, cap, hv, hc, h⟩ := h
  refine ⟨ao, cap, hv, hc, fun k hk => ?_⟩
  obtain ⟨q, ha, hq, h1, h2⟩ := h k hk
  refine ⟨q, ha, Nat.lt_of_lt_of_le hq hb.size, ?_⟩
  rw [hb.cell (Nat.lt_of_lt_of_le hq hn), hb.cell (Nat.lt_of_lt_of_le hq hn)]
  exact ⟨h1, h2⟩

theorem facts_news {w : World} {q : Nat} {l : List Fct} (h : ∀ k, k < l.length → ∃ p, some (⟨q, 0, none⟩ : Addr) = some ⟨p, 0, none⟩ ∧ p < w.heap.size ∧ w.cell? ⟨p, k * 2, none⟩ = some (.int .i64 ((l.getD k (0, ByteArray.empty)).1 : Int)) ∧ w.cell? ⟨p, k * 2 + 1, none⟩ = some (.string (l.getD k (0, ByteArray.empty)).2)) :
    ∀ j u, (factV l)[j]? = some u → w.cell? ((⟨q, 0, none⟩ : Addr).add j) = some u := by
  intro j u hu
  have hj : j < l.length * 2 := by have := (List.getElem?_eq_some_iff.1 hu).1; rwa [factV_length] at this
  have hadd : (⟨q, 0, none⟩ : Addr).add j = ⟨q, j, none⟩ := by unfold Addr.add; split <;> simp_all
  rw [hadd]
  obtain ⟨p, hp, _, h1, h2⟩ := h (j / 2) (by omega)
  obtain ⟨g1, g2⟩ := factV_get l (j / 2) (by omega)
  simp only [Option.some.injEq, Addr.mk.injEq] at hp
  obtain ⟨rfl, _⟩ := hp
  rcases Nat.mod_two_eq_zero_or_one j with hm | hm
  · have e : j / 2 * 2 = j := by omega
    rw [e] at h1 g1
    rw [h1, ← g1, hu]
  · have e : j / 2 * 2 + 1 = j := by omega
    rw [e] at h2 g2
    rw [h2, ← g2, hu]

/-- What found holds. -/
def foundB (o : Option Fct) : Array Value := match o with
  | none => #[.int .i64 0, .string ByteArray.empty]
  | some g => #[.int .i64 (g.1 : Int), .string g.2]

/-- A round of the stairs: W the world at its beginning, in which found's block comes next. -/
structure SAt (W wr : World) (R : List Fct) (o : Option Fct) (rv : Value) : Prop where
  found : wr.heap[W.heap.size]? = some (.cells (foundB o) 138 (0, 0))
  own : wr.ownsRow (W.heap.size + 1) 138 2 rv R.length (factV R)
  below : Below W.heap.size W wr

def sifted (bit : Nat) (l : List Fct) (k : Nat) : List Fct × Option Fct := (l.take k).foldl (siftStep bit) ([], none)

theorem sifted_succ (bit : Nat) (l : List Fct) (k : Nat) (h : k < l.length) : sifted bit l (k + 1) = siftStep bit (sifted bit l k) (l.getD k (0, ByteArray.empty)) := by
  unfold sifted
  rw [List.take_succ_eq_append_getElem h, List.foldl_append, List.getD_eq_getElem?_getD, List.getElem?_eq_getElem h]; rfl

theorem sifted_all (bit : Nat) (l : List Fct) : sifted bit l l.length = sift bit l := by unfold sifted sift; rw [List.take_length]

theorem siftStep_len (bit : Nat) (st : List Fct × Option Fct) (f : Fct) : (siftStep bit st f).1.length + (siftStep bit st f).2.toList.length ≤ st.1.length + st.2.toList.length + 1 := by
  obtain ⟨r, o⟩ := st
  unfold siftStep
  by_cases h : f.1.testBit bit = true
  · rw [if_pos h]
    cases o <;> simp
  · rw [if_neg h]
    simp; omega

theorem sifted_len (bit : Nat) (l : List Fct) (k : Nat) (h : k ≤ l.length) : (sifted bit l k).1.length + (sifted bit l k).2.toList.length ≤ k := by
  induction k with
  | zero => simp [sifted]
  | succ k ih =>
    rw [sifted_succ bit l k (by omega)]
    have := siftStep_len bit (sifted bit l k) (l.getD k (0, ByteArray.empty))
    have := ih (by omega)
    omega

theorem sifted_found (bit z : Nat) (l : List Fct) (k : Nat) (hs : Sized z l) {g : Fct} (h : (sifted bit l k).2 = some g) : g ∈ l ∧ g.1.testBit bit = true := by
  have h1 := (sift_ok bit z (l.take k) (fun x hx => hs x (List.mem_of_mem_take hx))).found g h
  exact ⟨List.mem_of_mem_take h1.1, h1.2⟩

theorem stairsTo_len (l : List Fct) (n : Nat) : (stairsTo l n).1.length + (stairsTo l n).2.length ≤ l.length := by
  induction n with
  | zero => simp [stairsTo]
  | succ n ih =>
    have h := sifted_len (39 - n) (stairsTo l n).2 _ (Nat.le_refl _)
    rw [sifted_all] at h
    show ((stairsTo l n).1 ++ (sift (39 - n) (stairsTo l n).2).2.toList).length + (sift (39 - n) (stairsTo l n).2).1.length ≤ _
    rw [List.length_append]; omega

theorem low_lt {n : Nat} {l : List Fct} (h : Low n l) (hn : n ≤ 40) {f : Fct} (hf : f ∈ l) : f.1 < 1099511627776 := by
  have : f.1 < 2 ^ 40 := Nat.lt_pow_two_of_testBit _ (fun i hi => h f hf i (by omega))
  omega

theorem found_cells {w : World} {q : Nat} {o : Option Fct} (h : w.heap[q]? = some (.cells (foundB o) 138 (0, 0))) :
    w.cell? ⟨q, 0, none⟩ = some (.int .i64 (((o.getD (0, ByteArray.empty)).1 : Nat) : Int)) ∧ w.cell? ⟨q, 1, none⟩ = some (.string (o.getD (0, ByteArray.empty)).2) ∧ q < w.heap.size := by
  refine ⟨?_, ?_, (Array.getElem?_eq_some_iff.1 h).1⟩
  · rw [cell_of_row _ _ _ _ _ _ h]; cases o <;> rfl
  · rw [cell_of_row _ _ _ _ _ _ h]; cases o <;> rfl

theorem found_frozen {w : World} {q : Nat} {cs : Array Value} {t : TypeId} (h : w.heap[q]? = some (.cells cs t (0, 0))) (i : Nat) : w.frozen? ⟨q, i, none⟩ = false := by
  simp [World.frozen?, h]

theorem heap_alloc2 (w : World) (a b : Obj) : ((w.alloc a).alloc b).heap[w.heap.size + 1]? = some b := by
  have h := heap_alloc_new (w.alloc a) b
  rwa [World.size_alloc] at h

theorem SAt.take {W wr : World} {R : List Fct} {o : Option Fct} {rv : Value} (f : Fct) (b : Obj) (h : SAt W wr R o rv) :
    SAt W (((wr.setCell ⟨W.heap.size, 0, none⟩ (.int .i64 (f.1 : Int))).setCell ⟨W.heap.size, 1, none⟩ (.string f.2)).alloc b) R (some f) rv := by
  have hq := (found_cells h.found).2.2
  have h1 := heap_setCell_same wr W.heap.size 0 _ _ (.int .i64 (f.1 : Int)) h.found
  have h2 := heap_setCell_same _ W.heap.size 1 _ _ (.string f.2) h1
  refine ⟨?_, ?_, ?_⟩
  · rw [heap_alloc_old _ _ (by simp; omega), h2]
    cases o <;> rfl
  · refine World.ownsRow.alloc (owns_of_block (w := wr) h.own (fun k hk => ?_)) _
    have hk2 := (h.own.lt k hk).1
    rw [heap_setCell_other _ _ _ _ (by show k ≠ W.heap.size; omega), heap_setCell_other _ _ _ _ (by show k ≠ W.heap.size; omega)]
  · exact ((h.below.setCell (Nat.le_refl _) _).setCell (Nat.le_refl _) _).alloc (by simp; omega) _

theorem SAt.on {W wr w2 : World} {R : List Fct} {o : Option Fct} {rv : Value} (h : SAt W wr R o rv) (hb : Below wr.heap.size wr w2) : SAt W w2 R o rv := by
  have hq := (found_cells h.found).2.2
  exact ⟨by rw [hb.block _ hq]; exact h.found, owns_of_block h.own (fun k hk => hb.block k (h.own.lt k hk).2), h.below.trans (hb.mono (Nat.le_of_lt hq))⟩

theorem SAt.push {W wr w2 : World} {R R' : List Fct} {o : Option Fct} {rv v' : Value} {n : Nat} {xs : List Value} (h : SAt W wr R o rv) (hg : wr.grownBy w2 rv.ownBlock)
    (hown : w2.ownsRow (W.heap.size + 1) 138 2 v' n xs) (hn : R'.length = n) (hx : factV R' = xs) : SAt W w2 R' o v' := by
  have hq := (found_cells h.found).2.2
  refine ⟨?_, by rw [hn, hx]; exact hown, h.below.grown hg (Nat.le_of_lt hq) (fun k e => by have := (h.own.lt k e).1; omega)⟩
  rw [hg.block _ hq (fun e => by have := (h.own.lt _ e.symm).1; omega)]
  exact h.found

set_option maxRecDepth 100000 in
set_option maxHeartbeats 8000000 in
theorem stairs_any (v : Value) (l : List Fct) (z : Nat) (w : World) (hl : l.length ≤ 1000) (hz : 0 < z ∧ z ≤ 1000) (hs : Sized z l) (hlo : Low 40 l) (hat : FactsAt w v l) :
    Calls Tryz.prog 89 #[v] w fun e w' => ∃ v', e = .returned v' ∧ w'.ownsRow w.heap.size 138 2 v' (stairs l).length (factV (stairs l)) ∧ Below w.heap.size w w' := by
  obtain ⟨i0, hi, hz0, hz1, hz2⟩ := info_parts Tryz.infoFact
  go_enter Tryz.func89, Tryz.ntmps89
  go_wp2_with fail
  go_loopw [0, 3, 4] (fun lv ov bv wr => ∃ n : Nat, n ≤ 40 ∧ bv = .int .i64 (39 - (n : Int)) ∧ FactsAt wr lv (stairsTo l n).2 ∧ wr.ownsRow w.heap.size 138 2 ov (stairsTo l n).1.length (factV (stairsTo l n).1) ∧ Below w.heap.size w wr) (fun _ _ b _ => (intOf b + 1).toNat)
  case atStart => exact ⟨0, by omega, rfl, hat, World.ownsRow_nil _ _ _ _, Below.refl _ _⟩
  case round =>
    clear hat
    obtain ⟨n, hn, rfl, hat, hown, hbel⟩ := hrel
    by_cases hlt : n < 40
    · have hbc : (39 - (n : Int)) = ((39 - n : Nat) : Int) := by omega
      rw [hbc]
      have hk := stair_ok z l hs hlo n hn
      have hlen : (stairsTo l n).2.length ≤ 1000 := by have := stairsTo_len l n; omega
      have hst : stairsTo l (n + 1) = ((stairsTo l n).1 ++ (sift (39 - n) (stairsTo l n).2).2.toList, (sift (39 - n) (stairsTo l n).2).1) := rfl
      have Hst := hide hst
      have hlow := hk.low
      have hsz : Sized z (stairsTo l n).2 := fun x hx => hk.sized x (List.mem_append_right _ hx)
      clear hst hk
      generalize (stairsTo l n).2 = L at *
      obtain ⟨W, rfl⟩ : ∃ W, W = wr := ⟨_, rfl⟩
      obtain ⟨ao, cap, rfl, hcap, hL⟩ := hat
      go_wp2_with fail
      go_loopw [5, 16] (fun rv iv wi => ∃ k : Nat, k ≤ L.length ∧ iv = .int .i64 (k : Int) ∧ SAt W wi (sifted (39 - n) L k).1 (sifted (39 - n) L k).2 rv) (fun _ i _ => L.length - (intOf i).toNat)
      case atStart => exact ⟨0, Nat.zero_le _, rfl, heap_alloc_new W _, World.ownsRow_nil _ _ _ _, (Below.refl _ _).alloc (Nat.le_refl _) _⟩
      case round =>
        obtain ⟨k, hkl, rfl, hin⟩ := hrel
        by_cases hkL : k < L.length
        · obtain ⟨q, rfl, hq, c0, c1⟩ := hL k hkL
          have d0 := (hin.below.cell (p := ⟨q, k * 2, none⟩) hq).trans c0
          have d1 := (hin.below.cell (p := ⟨q, k * 2 + 1, none⟩) hq).trans c1
          have hss := sifted_succ (39 - n) L k hkL
          have hsl := sifted_len (39 - n) L k hkl
          have hfl : L.getD k (0, ByteArray.empty) ∈ L := by rw [List.getD_eq_getElem?_getD, List.getElem?_eq_getElem hkL]; exact List.getElem_mem hkL
          have hf1 := low_lt hlow (by omega) hfl
          have hf2 := hsz _ hfl
          have hfo : ∀ g, (sifted (39 - n) L k).2 = some g → g ∈ L ∧ g.1.testBit (39 - n) = true := fun g hg => sifted_found (39 - n) z L k hsz hg
          generalize L.getD k (0, ByteArray.empty) = f at *
          generalize sifted (39 - n) L k = st at *
          obtain ⟨R, o⟩ := st
          have hRl : R.length ≤ k := by simp at hsl; omega
          dsimp only at hin hfo
          obtain ⟨e0, e1, hqf⟩ := found_cells hin.found
          have hbt := bit_off f.1 (39 - n) (by omega)
          have i1 : (0 : Int) ≤ (k : Int) := by omega
          have i2 : (k : Int) < (L.length : Int) := by omega
          have hown2 := hin.own
          clear c0 c1 hL hsl
          by_cases htb : f.1.testBit (39 - n) = true
          · rw [htb] at hbt
            have hbt2 : (bits BinOp.and IntKind.i64 ((f.1 : Int) / 2 ^ (39 - n)) 1 == 0) = false := hbt
            cases o with
            | none =>
              have hss2 : sifted (39 - n) L (k + 1) = (R, some f) := by rw [hss]; simp [siftStep, htb]
              have Hss := hide hss2
              have z0 := found_frozen hin.found 0
              have z1 := found_frozen hin.found 1
              have e0' : wr.cell? ⟨W.heap.size, 0, none⟩ = some (.int .i64 0) := e0
              clear hss hss2 hbt e0
              go_wp2_with fail
              go_roundw
              case rel => exact ⟨k + 1, by omega, by go_num, by rw [Hss.out]; exact hin.take f _⟩
              case measure => simp [intOf]; omega
            | some g =>
              have hss2 : sifted (39 - n) L (k + 1) = (R ++ [(f.1 ^^^ g.1, xorB f.2 g.2)], some g) := by rw [hss]; simp [siftStep, htb]
              obtain ⟨hg1, hg2⟩ := hfo g rfl
              have hg3 := low_lt hlow (by omega) hg1
              have hg4 := hsz _ hg1
              have hg0 : ((g.1 : Int) == 0) = false := by
                have : g.1 ≠ 0 := fun e => by rw [e] at hg2; simp at hg2
                simp; exact this
              have hx := i64_xor_nat f.1 g.1 (by omega) (by omega)
              have Hss := hide hss2
              have Hx := hide hx
              have e0' : wr.cell? ⟨W.heap.size, 0, none⟩ = some (.int .i64 (g.1 : Int)) := e0
              have e1' : wr.cell? ⟨W.heap.size, 1, none⟩ = some (.string g.2) := e1
              have h2z : f.2.size = g.2.size := by omega
              have h0z : 0 < f.2.size := by omega
              have h1z : f.2.size ≤ 1000 := by omega
              have x0 : (wr.alloc (.cells #[.int .i64 (f.1 : Int), .string f.2] 138)).cell? ⟨wr.heap.size, 0, none⟩ = some (.int .i64 (f.1 : Int)) := by rw [cell_of_row _ _ _ _ _ _ (heap_alloc_new wr _)]; rfl
              have x1 : (wr.alloc (.cells #[.int .i64 (f.1 : Int), .string f.2] 138)).cell? ⟨wr.heap.size, 1, none⟩ = some (.string f.2) := by rw [cell_of_row _ _ _ _ _ _ (heap_alloc_new wr _)]; rfl
              have y0 : (wr.alloc (.cells #[.int .i64 (f.1 : Int), .string f.2] 138)).cell? ⟨W.heap.size, 0, none⟩ = some (.int .i64 (g.1 : Int)) := (World.cell?_of_block (w := wr) (heap_alloc_old wr _ hqf)).trans e0
              have y1 : (wr.alloc (.cells #[.int .i64 (f.1 : Int), .string f.2] 138)).cell? ⟨W.heap.size, 1, none⟩ = some (.string g.2) := (World.cell?_of_block (w := wr) (heap_alloc_old wr _ hqf)).trans e1
              clear hss hss2 hbt e0 e1 hx
              go_wp2_with fail
              go_region_held3 (fun w' => w'.cell? ⟨wr.heap.size, 0, none⟩ = some (.int .i64 (f.1 : Int)) ∧ w'.cell? ⟨wr.heap.size, 1, none⟩ = some (.string f.2) ∧ w'.cell? ⟨W.heap.size, 0, none⟩ = some (.int .i64 (g.1 : Int)) ∧ w'.cell? ⟨W.heap.size, 1, none⟩ = some (.string g.2))
                (first | (exact ⟨k0, k1, k2, k3⟩) | (exact ⟨j0, j1, j2, j3⟩) | go_keep)
                (first
                  | (go_at_call 90; refine (plus_any f.2 g.2 _ h2z h0z h1z).mono ?_; rintro e wp ⟨rfl, hbp⟩; have k0 := (hbp.cell (p := ⟨wr.heap.size, 0, none⟩) (by simp)).trans x0; have k1 := (hbp.cell (p := ⟨wr.heap.size, 1, none⟩) (by simp)).trans x1; have k2 := (hbp.cell (p := ⟨W.heap.size, 0, none⟩) (by simp; omega)).trans y0; have k3 := (hbp.cell (p := ⟨W.heap.size, 1, none⟩) (by simp; omega)).trans y1; have hbw : Below wr.heap.size wr wp := ((Below.refl _ _).alloc (Nat.le_refl _) _).drew.trans (hbp.mono (by simp)); have hSp := hin.on hbw; have hso := hSp.own; have hsw := hbp.size)
                  | (refine step_append_lies _ (by rfl) (.tmp 20) (.tmp 32) 112 (by rfl) (W.heap.size + 1) 138 i0 _ 2 24 Tryz.underlying112 hi hz0 hz1 hz2 rfl (by decide) _ _ _ (by rfl) (World.ownsRow.alloc hso _) ⟨wp.heap.size, 0, none⟩ 1 1 [.int .i64 (bits BinOp.xor IntKind.i64 (f.1 : Int) (g.1 : Int)), .string (xorB f.2 g.2)] (by rfl) rfl (World.news_of_block (cs := #[_, _]) (heap_alloc_new wp _)) (by intro u hu; simp at hu; rcases hu with rfl | rfl <;> rfl) (by decide) (by unfold maxLen; omega) (by omega) (by simp at hsw ⊢; omega) (wp.heap.size + 1) (by simp) ?_; intro gg cap2 w2 hown3 hgr hat2 hlt2; have hgr0 := grownBy_of_alloc hgr; have j0 := (hgr0.cell_far ⟨wr.heap.size, 0, none⟩ (by simp at hsw ⊢; omega) (fun e => absurd (hown2.lt _ e.symm).2 (Nat.lt_irrefl _))).trans k0; have j1 := (hgr0.cell_far ⟨wr.heap.size, 1, none⟩ (by simp at hsw ⊢; omega) (fun e => absurd (hown2.lt _ e.symm).2 (Nat.lt_irrefl _))).trans k1; have j2 := (hgr0.cell_far ⟨W.heap.size, 0, none⟩ (by simp at hsw ⊢; omega) (fun e => absurd (hown2.lt _ e.symm).1 (Nat.not_succ_le_self _))).trans k2; have j3 := (hgr0.cell_far ⟨W.heap.size, 1, none⟩ (by simp at hsw ⊢; omega) (fun e => absurd (hown2.lt _ e.symm).1 (Nat.not_succ_le_self _))).trans k3))
              have hnext := hSp.push (R' := R ++ [(f.1 ^^^ g.1, xorB f.2 g.2)]) hgr0 hown3 (by simp) (by rw [factV_append, Hx.out]; rfl)
              clear hown3 hgr hat2 hin hown2 hso hSp
              go_wp2
              go_roundw
              case rel => exact ⟨k + 1, by omega, by go_num, by rw [Hss.out]; exact hnext⟩
              case measure => simp [intOf]; omega
          · have htb2 : f.1.testBit (39 - n) = false := by simpa using htb
            rw [htb2] at hbt
            have hbt2 : (bits BinOp.and IntKind.i64 ((f.1 : Int) / 2 ^ (39 - n)) 1 == 0) = true := hbt
            have hss2 : sifted (39 - n) L (k + 1) = (R ++ [f], o) := by rw [hss]; simp [siftStep, htb2]
            have Hss := hide hss2
            clear hss hss2 hbt htb
            go_wp2_with (at_builtin; refine wpList_append_lies _ rfl (.tmp 41) (.tmp 43) 112 rfl (W.heap.size + 1) 138 i0 _ 2 24 Tryz.underlying112 hi hz0 hz1 hz2 rfl (by decide) _ _ _ rfl ((hown2.alloc _).alloc _) ⟨wr.heap.size + 1, 0, none⟩ 1 1 [.int .i64 (f.1 : Int), .string f.2] rfl rfl (World.news_of_block (cs := #[_, _]) (heap_alloc2 wr _ _)) (by intro u hu; simp at hu; rcases hu with rfl | rfl <;> rfl) (by decide) (by unfold maxLen; omega) (by omega) (by simp; omega) (wr.heap.size + 1 + 1) (by simp) ?_)
            intro gg cap2 w2 hown3 hgr hat2 hlt2
            have hnext := hin.push (R' := R ++ [f]) (grownBy_of_alloc (grownBy_of_alloc hgr)) hown3 (by simp) (by rw [factV_append]; rfl)
            clear hown3 hgr hat2 hin hown2
            go_wp2
            go_roundw
            case rel => exact ⟨k + 1, by omega, by go_num, by rw [Hss.out]; exact hnext⟩
            case measure => simp [intOf]; omega
        · have hkk : k = L.length := by omega
          rw [hkk, sifted_all] at hin
          have hfo : ∀ g, (sift (39 - n) L).2 = some g → g ∈ L ∧ g.1.testBit (39 - n) = true := fun g hg => sifted_found (39 - n) z L L.length hsz (by rw [sifted_all]; exact hg)
          have hEl := stairsTo_len l n
          generalize sift (39 - n) L = st at *
          generalize hE : (stairsTo l n).1 = E at *
          obtain ⟨R, o⟩ := st
          dsimp only at hin hfo Hst
          obtain ⟨e0, e1, hqf⟩ := found_cells hin.found
          have hownW : wr.ownsRow w.heap.size 138 2 u3 E.length (factV E) := owns_of_block hown (fun k hk => hin.below.block k (hown.lt k hk).2)
          have hbw : Below w.heap.size w wr := hbel.trans (hin.below.mono hbel.size)
          have hownW0 := hown
          clear hL hown
          cases o with
          | none =>
            have e0' : wr.cell? ⟨W.heap.size, 0, none⟩ = some (.int .i64 0) := e0
            have hrest := owns_facts hin.own
            clear e0 e1 hin hbel
            go_wp2_with fail
            go_roundw
            case rel => exact ⟨n + 1, by omega, by go_num, by rw [Hst.out]; exact hrest, by rw [Hst.out]; simpa using hownW, hbw⟩
            case measure => simp [intOf]
          | some g =>
            have e0' : wr.cell? ⟨W.heap.size, 0, none⟩ = some (.int .i64 (g.1 : Int)) := e0
            have e1' : wr.cell? ⟨W.heap.size, 1, none⟩ = some (.string g.2) := e1
            have hg0 : ((g.1 : Int) == 0) = false := by
              have : g.1 ≠ 0 := fun e => by have := (hfo g rfl).2; rw [e] at this; simp at this
              simp; exact this
            have hg1 : ((g.1 : Int) != 0) = true := by rw [bne, hg0]; rfl
            clear e0 e1
            go_wp2_with (at_builtin; refine wpList_append_lies _ rfl (.tmp 54) (.tmp 56) 112 rfl w.heap.size 138 i0 _ 2 24 Tryz.underlying112 hi hz0 hz1 hz2 rfl (by decide) _ _ _ rfl (hownW.alloc _) ⟨wr.heap.size, 0, none⟩ 1 1 [.int .i64 (g.1 : Int), .string g.2] rfl rfl (World.news_of_block (cs := #[_, _]) (heap_alloc_new wr _)) (by intro u hu; simp at hu; rcases hu with rfl | rfl <;> rfl) (by decide) (by unfold maxLen; omega) (by omega) (by simp; have := hbw.size; omega) (wr.heap.size + 1) (by simp) ?_)
            intro gg cap2 w2 hown3 hgr hat2 hlt2
            have hgr0 := grownBy_of_alloc hgr
            have hrest := owns_facts (owns_of_block hin.own (fun k hk => hgr0.block k (hin.own.lt k hk).2 (fun e => by have h1 := (hin.own.lt k hk).1; have h2 := (hownW0.lt k e.symm).2; omega)))
            have hb2 : Below w.heap.size w w2 := hbw.grown hgr0 hbw.size (fun k e => (hownW.lt k e).1)
            have hown4 : w2.ownsRow w.heap.size 138 2 (.slice (some ⟨gg, 0, none⟩) (E.length + 1) cap2) (E ++ [g]).length (factV (E ++ [g])) := by rw [factV_append, List.length_append]; exact hown3
            clear hown3 hgr hat2 hgr0 hin hownW hbw hownW0 hbel
            go_wp2
            go_roundw
            case rel => exact ⟨n + 1, by omega, by go_num, by rw [Hst.out]; exact hrest, by rw [Hst.out]; exact hown4, hb2⟩
            case measure => simp [intOf]
    · have hn40 : n = 40 := by omega
      have hEl := stairsTo_len l n
      have hst : stairs l = stairsAll l n := by rw [hn40]; rfl
      have hst2 : stairsAll l n = (stairsTo l n).1 ++ (stairsTo l n).2 := rfl
      rw [hst2] at hst
      have Hst := hide hst
      clear hst hst2
      generalize (stairsTo l n).1 = E at *
      generalize (stairsTo l n).2 = L at *
      obtain ⟨ao, cap, rfl, hcap, hL⟩ := hat
      have hsb := hbel.size
      cases L with
      | nil =>
        have hown4 : wr.ownsRow w.heap.size 138 2 u3 (stairs l).length (factV (stairs l)) := by rw [Hst.out, List.append_nil]; exact hown
        have hh := hown.2
        clear hown hL Hst
        rcases hh with ⟨rfl, hn0⟩ | ⟨g, c2, cur, rfl, _, hg, hc, _, _, _⟩
        · clear hn0
          cases ao with
          | none =>
            go_wp2_with fail
            go_ret
            exact ⟨_, rfl, hown4, hbel⟩
          | some a =>
            go_wp2_with fail
            go_ret
            exact ⟨_, rfl, hown4, hbel⟩
        · clear hg
          cases ao with
          | none =>
            go_wp2_with fail
            go_ret
            exact ⟨_, rfl, hown4, hbel⟩
          | some a =>
            go_wp2_with fail
            go_ret
            exact ⟨_, rfl, hown4, hbel⟩
      | cons f0 L0 =>
        obtain ⟨q, rfl, hq, _, _⟩ := hL 0 (by simp)
        have hnews := facts_news hL
        generalize hLL : f0 :: L0 = L at *
        have hL0 : 0 < L.length := by rw [← hLL]; simp
        clear hLL hL
        go_wp2_with (at_builtin; refine wpList_append_lies _ rfl (.tmp 59) (.tmp 60) 112 rfl w.heap.size 138 i0 _ 2 24 Tryz.underlying112 hi hz0 hz1 hz2 rfl (by decide) _ _ _ rfl hown ⟨q, 0, none⟩ L.length cap (factV L) rfl (factV_length L) hnews (factV_one L) hL0 (by unfold maxLen; omega) (by omega) hsb wr.heap.size rfl ?_)
        intro gg cap2 w2 hown3 hgr hat2 hlt2
        have hb2 : Below w.heap.size w w2 := hbel.grown hgr hsb (fun k e => (hown.lt k e).1)
        have hown4 : w2.ownsRow w.heap.size 138 2 (.slice (some ⟨gg, 0, none⟩) (E.length + L.length) cap2) (stairs l).length (factV (stairs l)) := by rw [Hst.out, factV_append, List.length_append]; exact hown3
        clear hown3 hgr hat2 hown
        go_wp2
        go_ret
        exact ⟨_, rfl, hown4, hb2⟩

end Go.Proofs.YtnjaofkieajnlaaGreat
