/- Texts of the proof, part 12. -/
import Derived.Lib.AppendStr
import Derived.Test.YtnjaofkieajnlaaKnownG10
import Derived.Test.YtnjaofkieajnlaaKnownG6
import Derived.Test.YtnjaofkieajnlaaKnownG7

/- The program's Get, Put and Need of a box within another block. -/
namespace Go.Proofs.Ytnjaofkieajnlaa
open Go.RowKit

/-- The box in a world that only new blocks part from w. -/
structure QBoxIn (w w' : World) (p o Ln : Nat) (tt : TypeId) (hh : Nat → Value) (K n z : Nat) (of : Nat → Nat) (kn : Kn) : Prop where
  box : BoxOff w' p o Ln tt hh K n z of kn
  below : Below w.heap.size w w'

namespace QBoxIn
variable {w w' w2 : World} {p o Ln : Nat} {tt : TypeId} {hh : Nat → Value} {K n z : Nat} {of : Nat → Nat} {kn : Kn}

theorem on (h : QBoxIn w w' p o Ln tt hh K n z of kn) (hb : Below w'.heap.size w' w2) : QBoxIn w w2 p o Ln tt hh K n z of kn := ⟨h.box.on (Nat.le_refl _) hb, h.below.trans (hb.mono h.below.size)⟩

theorem alloc (h : QBoxIn w w' p o Ln tt hh K n z of kn) (ob : Obj) : QBoxIn w (w'.alloc ob) p o Ln tt hh K n z of kn := h.on ((Below.refl _ _).alloc (Nat.le_refl _) ob)

theorem drew (h : QBoxIn w w' p o Ln tt hh K n z of kn) : QBoxIn w w'.drew p o Ln tt hh K n z of kn := ⟨h.box, h.below.drew⟩

theorem setCell (h : QBoxIn w w' p o Ln tt hh K n z of kn) (hp : p < w.heap.size) {a : Addr} (ha : w.heap.size ≤ a.block) (v : Value) : QBoxIn w (w'.setCell a v) p o Ln tt hh K n z of kn :=
  ⟨h.box.block (heap_setCell_other _ _ _ _ (by omega)), h.below.setCell ha v⟩

/-- What Get reads of it. -/
theorem all (h : QBoxIn w w' p o Ln tt hh K n z of kn) {i : Nat} (hi : i < 40) : w'.cell? ⟨p, o + 3 + i, none⟩ = some (.int .i64 (of i : Int)) ∧ w'.cell? ⟨p, o + 2, none⟩ = some (.int .i64 (z : Int)) ∧ QBoxIn w w' p o Ln tt hh K n z of kn :=
  ⟨h.box.of_ hi, h.box.head.2.2, h⟩

end QBoxIn

set_option maxRecDepth 100000 in
set_option maxHeartbeats 4000000 in
theorem qget_arg (p o Ln : Nat) (tt : TypeId) (hh : Nat → Value) (K n z : Nat) (i : Int) (of : Nat → Nat) (kn : Kn) (w : World) (hi : i < 0 ∨ (n : Int) ≤ i) (hbox : BoxOff w p o Ln tt hh K n z of kn) :
    Calls Try.prog 71 #[.pointer (some ⟨p, o, none⟩), .int .i64 i] w fun e w' => e = .returned (.tuple #[.string ⟨#[]⟩, .int .i64 2]) ∧ w' = w := by
  obtain ⟨h0, h1, h2⟩ := hbox.head
  go_enter Try.func71, Try.ntmps71
  rcases hi with hi | hi
  · go_wp2_with fail
    go_ret2
    exact ⟨rfl, rfl⟩
  · by_cases h0 : i < 0
    · go_wp2_with fail
      go_ret2
      exact ⟨rfl, rfl⟩
    · go_wp2_with fail
      go_ret2
      exact ⟨rfl, rfl⟩

set_option maxRecDepth 100000 in
set_option maxHeartbeats 4000000 in
theorem qget_ok (p o Ln : Nat) (tt : TypeId) (hh : Nat → Value) (K n z i : Nat) (of : Nat → Nat) (kn : Kn) (w : World) (hK : K ≤ 20) (hkn : KnOk K z kn) (hof : ∀ i, of i < 2 ^ K) (hz : z ≤ 1000) (hn : n ≤ 40) (hi : i < n) (hbox : BoxOff w p o Ln tt hh K n z of kn) :
    Calls Try.prog 71 #[.pointer (some ⟨p, o, none⟩), .int .i64 (i : Int)] w fun e w' => e = .returned (.tuple (if (left kn (of i) (zeroB z)).1 = 0 then #[.string (left kn (of i) (zeroB z)).2, .int .i64 0] else #[.string ⟨#[]⟩, .int .i64 5])) ∧ Below w.heap.size w w' := by
  obtain ⟨h0, h1, h2⟩ := hbox.head
  have hp := hbox.lt
  have hin : QBoxIn w w p o Ln tt hh K n z of kn := ⟨hbox, Below.refl _ _⟩
  have hx : of i < 1048576 := Nat.lt_of_lt_of_le (hof i) (Nat.le_trans (Nat.pow_le_pow_right (by omega) hK) (by decide))
  have hoi := hbox.of_ (i := i) (by omega)
  have hi40 : i < 40 := by omega
  have i1 : (0 : Int) ≤ (i : Int) := by omega
  have i2 : (i : Int) < (n : Int) := by omega
  have i3 : (i : Int) < 40 := by omega
  have hlz : (left kn (of i) (zeroB z)).1 < 1048576 := (left_ok hkn (of i) (zeroB z) (zeroB_size z)).low 20 hK (by omega)
  go_enter Try.func71, Try.ntmps71
  go_wp2_with fail
  go_region_held3 (fun w' => w'.cell? ⟨p, o + 3 + i, none⟩ = some (.int .i64 (of i : Int)) ∧ w'.cell? ⟨p, o + 2, none⟩ = some (.int .i64 (z : Int)) ∧ QBoxIn w w' p o Ln tt hh K n z of kn)
    (first | (exact QBoxIn.all hin hi40) | (exact QBoxIn.all hin.drew hi40) | (exact QBoxIn.all hs2 hi40) | (exact QBoxIn.all hs1 hi40) | (exact QBoxIn.all (QBoxIn.alloc (by go_split_ands; assumption) _) hi40) | (exact QBoxIn.all (QBoxIn.setCell (QBoxIn.setCell (by go_split_ands; assumption) hp (by first | omega | (dsimp only; omega) | (simp; omega)) _) hp (by first | omega | (dsimp only; omega) | (simp; omega)) _) hi40) | go_keep)
    (first
      | (go_at_call 87; refine (bnoughts_any z _ hz).mono ?_; rintro e w1 ⟨rfl, hb1⟩; obtain ⟨k1, k2⟩ := bcell hb1; have hs1 : QBoxIn w w1 p o Ln tt hh K n z of kn := QBoxIn.on (by go_split_ands; assumption) hb1; have hz1 := hs1.below.size; (try (have y1 : w.heap.size < w1.heap.size := by have := hb1.size; simp at this; omega)))
      | (go_at_call 85; refine (qwithout_any p o Ln tt hh K n z (of i) of kn (zeroB z) _ hK hkn hx (zeroB_size z) hz ?_).mono ?_; (go_split_ands; exact QBoxIn.box (by assumption)); rintro e w2 ⟨rfl, hb2⟩; obtain ⟨m1, m2⟩ := bcell hb2; have hs2 : QBoxIn w w2 p o Ln tt hh K n z of kn := QBoxIn.on (by go_split_ands; assumption) hb2; have hz2 := hs2.below.size))
  all_goals
    by_cases h0 : (left kn (of i) (zeroB z)).1 = 0
    · have hne : (((left kn (of i) (zeroB z)).1 : Int) != 0) = false := by simp [bne]; exact h0
      have HE := hide h0
      clear h0
      go_wp2_with fail
      go_ret2
      exact ⟨by first | rfl | (rw [if_pos HE.out]; rfl), by first | exact (hs2.alloc _).below | exact ((hs2.setCell hp (by first | omega | (dsimp only; omega)) _).setCell hp (by first | omega | (dsimp only; omega)) _).below⟩
    · have hne : (((left kn (of i) (zeroB z)).1 : Int) != 0) = true := by simp [bne]; exact h0
      have HE := hide h0
      clear h0
      go_wp2_with fail
      go_ret2
      exact ⟨by first | rfl | (rw [if_neg HE.out]; rfl), by first | exact (hs2.alloc _).below | exact ((hs2.setCell hp (by first | omega | (dsimp only; omega)) _).setCell hp (by first | omega | (dsimp only; omega)) _).below⟩

set_option maxRecDepth 100000 in
set_option maxHeartbeats 4000000 in
theorem qneed_any (p o Ln : Nat) (tt : TypeId) (hh : Nat → Value) (K n z : Nat) (of : Nat → Nat) (kn : Kn) (w : World) (hK : K ≤ 20) (hbox : BoxOff w p o Ln tt hh K n z of kn) :
    Calls Try.prog 70 #[.pointer (some ⟨p, o, none⟩)] w fun e w' => e = .returned (.int .i64 (openK kn K : Int)) ∧ w' = w := by
  obtain ⟨h0, h1, h2⟩ := hbox.head
  have hp := hbox.lt
  go_enter Try.func70, Try.ntmps70
  go_wp2_with fail
  go_loop [3, 4] (fun nv jv => ∃ j : Nat, j ≤ K ∧ jv = .int .i64 (j : Int) ∧ nv = .int .i64 (openK kn j : Int)) (fun _ jv => K - (intOf jv).toNat)
  case atStart => exact ⟨0, Nat.zero_le _, rfl, rfl⟩
  case round =>
    obtain ⟨j, hj, rfl, rfl⟩ := hrel
    have hle := openK_le kn j
    by_cases hlt : j < K
    · obtain ⟨c0, _⟩ := hbox.known (j := j) (by omega)
      have i1 : (0 : Int) ≤ (j : Int) := by omega
      have i2 : (j : Int) < 20 := by omega
      have hs := openK_succ kn j
      by_cases hz : (kn j).1 = 0
      · rw [if_pos hz] at hs
        have Hs := hide hs
        have b0 : (((kn j).1 : Int) == 0) = true := by rw [hz]; rfl
        clear hs hz
        go_wp2_with fail
        go_round
        case rel => exact ⟨j + 1, by omega, by go_num, by rw [Hs.out]; go_num⟩
        case measure => simp [intOf]; omega
      · rw [if_neg hz, Nat.add_zero] at hs
        have Hs := hide hs
        have b0 : (((kn j).1 : Int) == 0) = false := by simpa using hz
        clear hs
        go_wp2_with fail
        go_round
        case rel => exact ⟨j + 1, by omega, by go_num, by rw [Hs.out]; rfl⟩
        case measure => simp [intOf]; omega
    · have hjK : j = K := by omega
      subst hjK
      go_wp2_with fail
      go_ret
      exact ⟨rfl, rfl⟩

set_option maxRecDepth 100000 in
set_option maxHeartbeats 4000000 in
theorem qput_arg (p o Ln : Nat) (tt : TypeId) (hh : Nat → Value) (K n z : Nat) (i : Int) (t : ByteArray) (of : Nat → Nat) (kn : Kn) (w : World) (hi : i < 0 ∨ (n : Int) ≤ i) (hbox : BoxOff w p o Ln tt hh K n z of kn) :
    Calls Try.prog 69 #[.pointer (some ⟨p, o, none⟩), .int .i64 i, .string t] w fun e w' => e = .returned (.int .i64 2) ∧ w' = w := by
  obtain ⟨h0, h1, h2⟩ := hbox.head
  go_enter Try.func69, Try.ntmps69
  rcases hi with hi | hi
  · go_wp2_with fail
    go_ret
    exact ⟨rfl, rfl⟩
  · by_cases h0 : i < 0
    · go_wp2_with fail
      go_ret
      exact ⟨rfl, rfl⟩
    · go_wp2_with fail
      go_ret
      exact ⟨rfl, rfl⟩

set_option maxRecDepth 100000 in
set_option maxHeartbeats 4000000 in
theorem qput_shape (p o Ln : Nat) (tt : TypeId) (hh : Nat → Value) (K n z i : Nat) (t : ByteArray) (of : Nat → Nat) (kn : Kn) (w : World) (hi : i < n) (ht : t.size ≠ z) (hbox : BoxOff w p o Ln tt hh K n z of kn) :
    Calls Try.prog 69 #[.pointer (some ⟨p, o, none⟩), .int .i64 (i : Int), .string t] w fun e w' => e = .returned (.int .i64 3) ∧ w' = w := by
  obtain ⟨h0, h1, h2⟩ := hbox.head
  have i1 : ¬ (i : Int) < 0 := by omega
  have i2 : ¬ (n : Int) ≤ (i : Int) := by omega
  have hb : ((t.size : Int) != (z : Int)) = true := by simp; omega
  go_enter Try.func69, Try.ntmps69
  go_wp2_with fail
  go_ret
  exact ⟨rfl, rfl⟩

set_option maxRecDepth 100000 in
set_option maxHeartbeats 4000000 in
theorem qput_ok (p o Ln : Nat) (tt : TypeId) (hh : Nat → Value) (K n z i : Nat) (t : ByteArray) (of : Nat → Nat) (kn : Kn) (w : World) (hK : K ≤ 20) (hkn : KnOk K z kn) (hof : ∀ i, of i < 2 ^ K) (hz : z ≤ 1000) (hn : n ≤ 40) (hi : i < n) (ht : t.size = z) (hbox : BoxOff w p o Ln tt hh K n z of kn) :
    Calls Try.prog 69 #[.pointer (some ⟨p, o, none⟩), .int .i64 (i : Int), .string t] w fun e w' => e = .returned (.int .i64 (putE (left kn (of i) t) z)) ∧ BoxOff w' p o Ln tt hh K n z of (putK kn (of i) t) ∧ Chg (fun k => k = p) w w' := by
  obtain ⟨h0, h1, h2⟩ := hbox.head
  have hp := hbox.lt
  have hx : of i < 1048576 := Nat.lt_of_lt_of_le (hof i) (Nat.le_trans (Nat.pow_le_pow_right (by omega) hK) (by decide))
  have hoi := hbox.of_ (i := i) (by omega)
  have i0 : ¬ (i : Int) < 0 := by omega
  have i1 : (0 : Int) ≤ (i : Int) := by omega
  have i2 : ¬ (n : Int) ≤ (i : Int) := by omega
  have i3 : (i : Int) < 40 := by omega
  have hb : ((t.size : Int) != (z : Int)) = false := by simp; omega
  have hlz : (left kn (of i) t).1 < 1048576 := (left_ok hkn (of i) t ht).low 20 hK (by omega)
  have hls := (left_ok hkn (of i) t ht).size
  have hput : putK kn (of i) t = if (left kn (of i) t).1 = 0 then kn else fun j => if j = (left kn (of i) t).1.log2 then left kn (of i) t else kn j := rfl
  have hwo := qwithout_any p o Ln tt hh K n z (of i) of kn t
  rw [hput]
  clear hput
  generalize left kn (of i) t = L at *
  go_enter Try.func69, Try.ntmps69
  go_wp2_with fail
  refine (hwo _ hK hkn hx ht hz hbox).mono ?_
  rintro e w1 ⟨rfl, hb1⟩
  clear hwo
  have hbox1 := hbox.on (Nat.le_refl _) hb1
  have hp1 := hbox1.lt
  have hsz1 := hb1.size
  obtain ⟨g0, g1, g2⟩ := hbox1.head
  have hboxA : BoxOff (w1.alloc (.cells #[.int .i64 (L.1 : Int), .string L.2] 89)) p o Ln tt hh K n z of kn := hbox1.block (heap_alloc_old _ _ hp1)
  have hbA : Below w.heap.size w (w1.alloc (.cells #[.int .i64 (L.1 : Int), .string L.2] 89)) := hb1.alloc hb1.size _
  by_cases hf0 : L.1 = 0
  · have hne : ((L.1 : Int) != 0) = false := by simp [bne]; exact hf0
    have HE := hide hf0
    clear hf0 g0 g1 h0 h1 h2 hoi
    have hc1 : (w1.alloc (.cells #[.int .i64 (L.1 : Int), .string L.2] 89)).cell? ⟨w1.heap.size, 1, none⟩ = some (.string L.2) := by
      rw [cell_of_row _ _ _ _ _ _ (heap_alloc_new w1 _)]; rfl
    have hc2 := hboxA.head.2.2
    by_cases hzz : L.2 = zeroB z
    · have hpe : putE L z = 0 := by unfold putE; rw [if_neg (fun h => h.2 hzz)]
      have hbb : (L.2.toList == (zeroB z).toList) = true := by rw [hzz]; simp
      have HP := hide hpe
      clear hpe hzz
      go_wp2_with fail
      go_region_held3 (fun w' => w'.cell? ⟨w1.heap.size, 1, none⟩ = some (.string L.2) ∧ w'.cell? ⟨p, o + 2, none⟩ = some (.int .i64 (z : Int)))
        (first | (exact ⟨hc1, hc2⟩) | (exact ⟨j0, j1⟩) | go_keep)
        (first
          | (go_at_call 87; refine (bnoughts_any z _ hz).mono ?_; rintro e w2 ⟨rfl, hb2⟩; have j0 := (hb2.cell (p := ⟨w1.heap.size, 1, none⟩) (by simp)).trans hc1; have j1 := (hb2.cell (p := ⟨p, o + 2, none⟩) (by simp; omega)).trans hc2))
      all_goals
        have hbx := hboxA.block (w' := w2) (hb2.block p (by simp; omega))
        have hbf : Below w.heap.size w w2 := hbA.drew.trans (Below.mono hb2 hbA.size)
        have hcg := Chg.of_below hbf (fun k => k = p)
        clear hb2 hbA hboxA hbox1 hb1 j0 j1 hc1 hc2 g2
        go_wp2_with fail
        go_ret
        exact ⟨by rw [HP.out]; rfl, by first | (rw [if_pos HE.out]; exact hbx) | exact hbx, hcg⟩
    · have hpe : putE L z = 4 := by unfold putE; rw [if_pos ⟨HE.out, hzz⟩]
      have hbb := beq_bytes hzz
      have HP := hide hpe
      clear hpe hzz
      go_wp2_with fail
      go_region_held3 (fun w' => w'.cell? ⟨w1.heap.size, 1, none⟩ = some (.string L.2) ∧ w'.cell? ⟨p, o + 2, none⟩ = some (.int .i64 (z : Int)))
        (first | (exact ⟨hc1, hc2⟩) | (exact ⟨j0, j1⟩) | go_keep)
        (first
          | (go_at_call 87; refine (bnoughts_any z _ hz).mono ?_; rintro e w2 ⟨rfl, hb2⟩; have j0 := (hb2.cell (p := ⟨w1.heap.size, 1, none⟩) (by simp)).trans hc1; have j1 := (hb2.cell (p := ⟨p, o + 2, none⟩) (by simp; omega)).trans hc2))
      all_goals
        have hbx := hboxA.block (w' := w2) (hb2.block p (by simp; omega))
        have hbf : Below w.heap.size w w2 := hbA.drew.trans (Below.mono hb2 hbA.size)
        have hcg := Chg.of_below hbf (fun k => k = p)
        clear hb2 hbA hboxA hbox1 hb1 j0 j1 hc1 hc2 g2
        go_wp2_with fail
        go_ret
        exact ⟨by rw [HP.out]; rfl, by first | (rw [if_pos HE.out]; exact hbx) | exact hbx, hcg⟩
  · have hne : ((L.1 : Int) != 0) = true := by simp [bne]; exact hf0
    have HE := hide hf0
    have hhi := highest_any L.1
    have ht20 : L.1.log2 < 20 := (Nat.log2_lt hf0).2 hlz
    have hpe : putE L z = 0 := by unfold putE; rw [if_neg (fun h => hf0 h.1)]
    have HP := hide hpe
    obtain ⟨q0, q1⟩ := hbox1.known ht20
    have f0 := hbox1.frozen (o + 43 + L.1.log2 * 2)
    have f1 := hbox1.frozen (o + 43 + L.1.log2 * 2 + 1)
    have hst := hbox1.store (t := L.1.log2) L ht20
    have hst2 := hst.block (heap_alloc_old _ (.cells #[.int .i64 (L.1 : Int), .string L.2] 89) hst.lt)
    have hcg := ((((Chg.of_below hb1 (fun k => k = p)).setCell (a := ⟨p, o + 43 + L.1.log2 * 2, none⟩) (Or.inr rfl) (.int .i64 (L.1 : Int))).setCell (a := ⟨p, o + 43 + L.1.log2 * 2 + 1, none⟩) (Or.inr rfl) (.string L.2)).alloc (.cells #[.int .i64 (L.1 : Int), .string L.2] 89)).drew
    clear hst
    clear hpe g0 g1 h0 h1 h2 hoi
    go_wp2_with fail
    refine (hhi _ hlz hf0).mono ?_
    rintro e w2 ⟨rfl, rfl⟩
    have t1 : (0 : Int) ≤ (L.1.log2 : Int) := by omega
    have t2 : (L.1.log2 : Int) < 20 := by omega
    clear hhi hlz hf0
    go_wp2_with fail
    go_region
    all_goals
      clear q0 q1 f0 f1
      go_wp2_with fail
      go_ret
      exact ⟨by rw [HP.out]; rfl, by first | (rw [if_neg HE.out]; exact hst2) | exact hst2, hcg⟩

end Go.Proofs.Ytnjaofkieajnlaa

/- The document's own packets. -/
namespace Go.Proofs.Ytnjaofkieajnlaa
open Go.RowKit

theorem heap_alloc2p (w : World) (a b : Obj) : ((w.alloc a).alloc b).heap[w.heap.size + 1]? = some b := by
  have h := heap_alloc_new (w.alloc a) b
  rw [World.size_alloc] at h
  exact h

/-- The bytes of a packet's head behind its first. -/
def headB (K M O S z i : Nat) : ByteArray := ⟨#[UInt8.ofNat K, UInt8.ofNat M, UInt8.ofNat O, UInt8.ofNat (S % 256), UInt8.ofNat (S / 256), UInt8.ofNat z, UInt8.ofNat i]⟩

/-- A packet without its last byte. -/
def packT (K M O S z i : Nat) (p : ByteArray) : ByteArray := ⟨#[82]⟩ ++ headB K M O S z i ++ p

/-- The byte that makes the sum of the first k bytes nought. -/
def chkTo (t : ByteArray) : Nat → UInt8
  | 0 => 0
  | k + 1 => chkTo t k - byteAt t k

/-- A packet. -/
def packB (K M O S z i : Nat) (p : ByteArray) : ByteArray := packT K M O S z i p ++ ⟨#[chkTo (packT K M O S z i p) (packT K M O S z i p).size]⟩

theorem ofNat_u8 (n : Nat) (h : n ≤ 255) : ((UInt8.ofNat n).toNat : Int) = (n : Int) := by
  rw [UInt8.toNat_ofNat']
  omega

theorem numsB_head (K M O S z i : Nat) (hK : K ≤ 20) (hM : M ≤ 20) (hO : O ≤ 20) (hS : S ≤ 65535) (hz : z ≤ 255) (hi : i ≤ 255) : numsB (headB K M O S z i) = [(K : Int), (M : Int), (O : Int), ((S % 256 : Nat) : Int), ((S / 256 : Nat) : Int), (z : Int), (i : Int)] := by
  show [((UInt8.ofNat K).toNat : Int), ((UInt8.ofNat M).toNat : Int), ((UInt8.ofNat O).toNat : Int), ((UInt8.ofNat (S % 256)).toNat : Int), ((UInt8.ofNat (S / 256)).toNat : Int), ((UInt8.ofNat z).toNat : Int), ((UInt8.ofNat i).toNat : Int)] = _
  rw [ofNat_u8 K (by omega), ofNat_u8 M (by omega), ofNat_u8 O (by omega), ofNat_u8 (S % 256) (by omega), ofNat_u8 (S / 256) (by omega), ofNat_u8 z hz, ofNat_u8 i hi]

theorem packT_size (K M O S z i : Nat) (p : ByteArray) : (packT K M O S z i p).size = 8 + p.size := by
  unfold packT
  rw [ByteArray.size_append, ByteArray.size_append]; rfl

theorem low_byte (S : Nat) (h : S ≤ 65535) : bits BinOp.and IntKind.i64 (S : Int) 255 % 256 = ((S % 256 : Nat) : Int) := by
  rw [show (255 : Int) = ((255 : Nat) : Int) from rfl, i64_and_nat S 255 (by omega) (by omega), show (255 : Nat) = 2 ^ 8 - 1 from rfl, Nat.and_two_pow_sub_one_eq_mod]
  omega

theorem sub_u8 (a b : UInt8) : ((a.toNat : Int) - (b.toNat : Int)) % 256 = ((a - b).toNat : Int) := by
  have h1 := a.toNat_lt
  have h2 := b.toNat_lt
  rw [UInt8.toNat_sub]
  omega

/-- Bytes of a block of the call's own, as a text. -/
theorem conv_block (B : ByteArray) (q : Nat) (cs : Array Value) (w : World) (h : w.heap[q]? = some (.cells cs 5 (0, 0))) (hc : cs = ((numsB B).map (Value.int .u8)).toArray) : (convert 53 9 (.slice (some ⟨q, 0, none⟩) B.size B.size)).run Try.prog w = .ok (.string B) w := by
  have hcells : ∀ j, j < B.size → w.cell? ⟨q, 0 + j, none⟩ = some (.int .u8 ((numsB B).getD j 0)) := fun j hj => by
    rw [Nat.zero_add, cell_of_row _ _ _ _ _ _ h, hc, List.getElem?_toArray, List.getElem?_map, List.getD_eq_getElem?_getD, List.getElem?_eq_getElem (by rw [numsB_length]; exact hj)]
    rfl
  have hcv := run_convert_bytes_arg (P := Try.prog) w 53 5 Try.underlying53 Try.underlying5 q 0 B.size B.size (numsB B) (numsB_length B) hcells 9 Try.underlying9
  rw [strOfNums_numsB] at hcv
  exact hcv

set_option maxRecDepth 100000 in
set_option maxHeartbeats 8000000 in
theorem packet_any (K M O S z i : Nat) (p : ByteArray) (w : World) (hK : K ≤ 20) (hM : M ≤ 20) (hO : O ≤ 20) (hS : S ≤ 65535) (hz : z ≤ 255) (hi : i ≤ 255) (hp : p.size ≤ 1000) :
    Calls Try.prog 63 #[specV K M O S, .int .i64 (z : Int), .int .i64 (i : Int), .string p] w fun e w' => e = .returned (.string (packB K M O S z i p)) ∧ Below w.heap.size w w' := by
  have hlow := low_byte S hS
  have hcv := conv_block (headB K M O S z i) (w.heap.size + 1) #[.int .u8 (K : Int), .int .u8 (M : Int), .int .u8 (O : Int), .int .u8 (bits BinOp.and IntKind.i64 (S : Int) 255 % 256), .int .u8 ((S : Int) / 256), .int .u8 (z : Int), .int .u8 (i : Int)] ((w.alloc (.cells #[.int .i64 (K : Int), .int .i64 (M : Int), .int .i64 (O : Int), .int .i64 (S : Int)] 23)).alloc (.cells #[.int .u8 (K : Int), .int .u8 (M : Int), .int .u8 (O : Int), .int .u8 (bits BinOp.and IntKind.i64 (S : Int) 255 % 256), .int .u8 ((S : Int) / 256), .int .u8 (z : Int), .int .u8 (i : Int)] 5)) (heap_alloc2p w _ _) (by rw [numsB_head K M O S z i hK hM hO hS hz hi, hlow]; rfl)
  have hcv' : (convert 53 9 (.slice (some ⟨w.heap.size + 1, 0, none⟩) 7 7)).run Try.prog ((w.alloc (.cells #[.int .i64 (K : Int), .int .i64 (M : Int), .int .i64 (O : Int), .int .i64 (S : Int)] 23)).alloc (.cells #[.int .u8 (K : Int), .int .u8 (M : Int), .int .u8 (O : Int), .int .u8 (bits BinOp.and IntKind.i64 (S : Int) 255 % 256), .int .u8 ((S : Int) / 256), .int .u8 (z : Int), .int .u8 (i : Int)] 5)) = .ok (.string (headB K M O S z i)) _ := hcv
  have hts := packT_size K M O S z i p
  have hT : packT K M O S z i p = ⟨#[82]⟩ ++ headB K M O S z i ++ p := rfl
  have hB : packB K M O S z i p = packT K M O S z i p ++ ⟨#[chkTo (packT K M O S z i p) (packT K M O S z i p).size]⟩ := rfl
  rw [hB]
  clear hcv hlow hB
  have hhs : (headB K M O S z i).size = 7 := rfl
  generalize headB K M O S z i = hd at *
  generalize packT K M O S z i p = t at *
  have HT := hide hT
  have htb : t.size ≤ 1008 := by omega
  have Hts := hide hts
  clear hT hts
  go_enter Try.func63, Try.ntmps63
  go_wp2_with fail
  clear hcv'
  have hbA : Below w.heap.size w ((w.alloc (.cells #[.int .i64 (K : Int), .int .i64 (M : Int), .int .i64 (O : Int), .int .i64 (S : Int)] 23)).alloc (.cells #[.int .u8 (K : Int), .int .u8 (M : Int), .int .u8 (O : Int), .int .u8 (bits BinOp.and IntKind.i64 (S : Int) 255 % 256), .int .u8 ((S : Int) / 256), .int .u8 (z : Int), .int .u8 (i : Int)] 5)) := ((Below.refl _ _).alloc (Nat.le_refl _) _).alloc (by simp) _
  generalize (w.alloc (.cells #[.int .i64 (K : Int), .int .i64 (M : Int), .int .i64 (O : Int), .int .i64 (S : Int)] 23)).alloc (.cells #[.int .u8 (K : Int), .int .u8 (M : Int), .int .u8 (O : Int), .int .u8 (bits BinOp.and IntKind.i64 (S : Int) 255 % 256), .int .u8 ((S : Int) / 256), .int .u8 (z : Int), .int .u8 (i : Int)] 5) = W at *
  rw [← HT.out]
  clear HT
  go_loop [10, 40] (fun sv iv => ∃ k : Nat, k ≤ 8 + p.size ∧ iv = .int .i64 (k : Int) ∧ sv = .int .u8 ((chkTo t k).toNat : Int)) (fun _ iv => 8 + p.size - (intOf iv).toNat)
  case atStart => exact ⟨0, Nat.zero_le _, rfl, rfl⟩
  case round =>
    obtain ⟨k, hk, rfl, rfl⟩ := hrel
    by_cases hlt : k < 8 + p.size
    · have hlt' : k < t.size := by rw [Hts.out]; exact hlt
      have g2 := byteAt_get t k hlt'
      have hsu := sub_u8 (chkTo t k) (byteAt t k)
      have hnx : chkTo t (k + 1) = chkTo t k - byteAt t k := rfl
      have Hnx := hide hnx
      have Hsu := hide hsu
      have i1 : (0 : Int) ≤ (k : Int) := by omega
      have i2 : (k : Int) < (t.size : Int) := by omega
      clear hnx hsu
      go_wp2_with fail
      go_round
      case rel => exact ⟨k + 1, by omega, by go_num, by rw [Hnx.out, ← Hsu.out]⟩
      case measure => simp [intOf]; omega
    · have hkk : k = 8 + p.size := by omega
      subst hkk
      have hcv := conv_block ⟨#[chkTo t (8 + p.size)]⟩ W.heap.size #[.int .u8 ((chkTo t (8 + p.size)).toNat : Int)] (W.alloc (.cells #[.int .u8 ((chkTo t (8 + p.size)).toNat : Int)] 5)) (heap_alloc_new W _) rfl
      have hcv' : (convert 53 9 (.slice (some ⟨W.heap.size, 0, none⟩) 1 1)).run Try.prog (W.alloc (.cells #[.int .u8 ((chkTo t (8 + p.size)).toNat : Int)] 5)) = .ok (.string ⟨#[chkTo t (8 + p.size)]⟩) _ := hcv
      have hbf := hbA.alloc hbA.size (.cells #[.int .u8 ((chkTo t (8 + p.size)).toNat : Int)] 5)
      clear hcv
      go_wp2_with fail
      go_ret
      exact ⟨by rw [Hts.out]; rfl, hbf⟩

end Go.Proofs.Ytnjaofkieajnlaa

/- The program's packets: the sum of a text's bytes, and the text of a packet. -/
namespace Go.Proofs.Ytnjaofkieajnlaa
open Go.RowKit

/-- The sum of the first k bytes. -/
def addTo (t : ByteArray) : Nat → UInt8
  | 0 => 0
  | k + 1 => addTo t k + byteAt t k

theorem add_u8 (a b : UInt8) : ((a.toNat : Int) + (b.toNat : Int)) % 256 = ((a + b).toNat : Int) := by
  rw [UInt8.toNat_add]
  omega

theorem neg_u8 (a : UInt8) : (-(a.toNat : Int)) % 256 = ((0 - a).toNat : Int) := by
  have h1 := a.toNat_lt
  rw [UInt8.toNat_sub]
  simp
  omega

theorem chk_add (t : ByteArray) (k : Nat) : chkTo t k = 0 - addTo t k := by
  induction k with
  | zero => simp [chkTo, addTo]
  | succ k ih =>
    show chkTo t k - byteAt t k = 0 - (addTo t k + byteAt t k)
    rw [ih]
    apply UInt8.toNat_inj.1
    rw [UInt8.toNat_sub, UInt8.toNat_sub, UInt8.toNat_sub, UInt8.toNat_add]
    have h1 := (addTo t k).toNat_lt
    have h2 := (byteAt t k).toNat_lt
    simp
    omega

set_option maxRecDepth 100000 in
set_option maxHeartbeats 4000000 in
theorem ptotal_any (t : ByteArray) (w : World) (ht : t.size ≤ 1000) :
    Calls Try.prog 95 #[.string t] w fun e w' => e = .returned (.int .u8 ((addTo t t.size).toNat : Int)) ∧ w' = w := by
  go_enter Try.func95, Try.ntmps95
  go_wp2_with fail
  go_loop [3, 4] (fun sv iv => ∃ k : Nat, k ≤ t.size ∧ iv = .int .i64 (k : Int) ∧ sv = .int .u8 ((addTo t k).toNat : Int)) (fun _ iv => t.size - (intOf iv).toNat)
  case atStart => exact ⟨0, Nat.zero_le _, rfl, rfl⟩
  case round =>
    obtain ⟨k, hk, rfl, rfl⟩ := hrel
    by_cases hlt : k < t.size
    · have g2 := byteAt_get t k hlt
      have hsu := add_u8 (addTo t k) (byteAt t k)
      have hnx : addTo t (k + 1) = addTo t k + byteAt t k := rfl
      have Hnx := hide hnx
      have Hsu := hide hsu
      have i1 : (0 : Int) ≤ (k : Int) := by omega
      have i2 : (k : Int) < (t.size : Int) := by omega
      clear hnx hsu
      go_wp2_with fail
      go_round
      case rel => exact ⟨k + 1, by omega, by go_num, by rw [Hnx.out, ← Hsu.out]⟩
      case measure => simp [intOf]; omega
    · have hkk : k = t.size := by omega
      subst hkk
      go_wp2_with fail
      go_ret
      exact ⟨rfl, rfl⟩

/-- A packet's parts as a value. -/
abbrev pkC (K M O S z i : Int) (p : ByteArray) : Array Value := #[.int .i64 K, .int .i64 M, .int .i64 O, .int .i64 S, .int .i64 z, .int .i64 i, .string p]

theorem pk_cells {w : World} {q : Nat} {K M O S z i : Int} {p : ByteArray} {t : TypeId} (h : w.heap[q]? = some (.cells (pkC K M O S z i p) t (0, 0))) :
    w.cell? ⟨q, 0, none⟩ = some (.int .i64 K) ∧ w.cell? ⟨q, 1, none⟩ = some (.int .i64 M) ∧ w.cell? ⟨q, 2, none⟩ = some (.int .i64 O) ∧ w.cell? ⟨q, 3, none⟩ = some (.int .i64 S) ∧ w.cell? ⟨q, 4, none⟩ = some (.int .i64 z) ∧ w.cell? ⟨q, 5, none⟩ = some (.int .i64 i) ∧ w.cell? ⟨q, 6, none⟩ = some (.string p) := by
  refine ⟨?_, ?_, ?_, ?_, ?_, ?_, ?_⟩ <;> rw [cell_of_row _ _ _ _ _ _ h] <;> rfl

theorem bytesV_app (a b : ByteArray) : bytesV (a ++ b) = bytesV a ++ bytesV b := by
  unfold bytesV numsB
  simp

theorem bytesV_str (a : ByteArray) : Go.Lib.strCells a = bytesV a := by
  unfold bytesV numsB Go.Lib.strCells
  rw [List.map_map]; rfl

theorem bytesV_one (a : ByteArray) : ∀ u ∈ bytesV a, u.oneCell' = true := by
  rw [← bytesV_str]; exact Go.Lib.strCells_oneCell a

theorem run_make_byteRow (n : Nat) (hn : n ≤ 1000000) (w : World) : (Instr.makeSlice 53 (.int .i64 0) (.int .i64 (n : Int))).run Try.prog w = .ok (.slice (some ⟨w.heap.size, 0, none⟩) 0 n) (w.alloc (.cells (madeCells #[.int .u8 0] n) 5)) := by
  obtain ⟨i, hi, hzz⟩ := Option.map_eq_some_iff.1 Try.infoByte
  simp only [Prod.mk.injEq] at hzz
  obtain ⟨hz, hs, hb⟩ := hzz
  have h := run_make (P := Try.prog) w 53 5 i (.int .u8 0) Try.underlying53 hi hz .i64 .i64 0 (n : Int) (by omega) (by omega) (by rw [hb]; omega) (by omega)
  simp only [Int.toNat_natCast, hs, Nat.mul_one] at h
  exact h

/-- Bytes that the call owns, as a text. -/
theorem conv_own (B : ByteArray) (v : Value) (n base : Nat) (w : World) (h : w.ownsRow base 5 1 v n (bytesV B)) (hn : n = B.size) (h0 : 0 < n) : (convert 53 9 v).run Try.prog w = .ok (.string B) w := by
  subst hn
  rcases h.2 with ⟨_, h1⟩ | ⟨g, cap, cur, rfl, _⟩
  · omega
  · have hcell := h.cells (g := g) rfl
    have hcells : ∀ j, j < B.size → w.cell? ⟨g, 0 + j, none⟩ = some (.int .u8 ((numsB B).getD j 0)) := fun j hj => by
      rw [numsB_getD, ← Addr.add_mid]
      exact hcell j _ (bytesV_getElem B j hj)
    have hcv := run_convert_bytes_arg (P := Try.prog) w 53 5 Try.underlying53 Try.underlying5 g 0 B.size cap (numsB B) (numsB_length B) hcells 9 Try.underlying9
    rw [strOfNums_numsB] at hcv
    exact hcv

theorem below_own {W W' : World} {base : Nat} {e : TypeId} {size : Nat} {v : Value} {n : Nat} {xs : List Value} {o : Obj} (h : W.ownsRow base e size v n xs) (hg : (W.alloc o).grownBy W' v.ownBlock) (hb : base ≤ W.heap.size) : Below base W W' :=
  (Below.refl base W).grown (grownBy_of_alloc hg) hb (fun k e => (h.lt k e).1)

theorem below_ownS {W W' : World} {base : Nat} {e : TypeId} {size : Nat} {v : Value} {n : Nat} {xs : List Value} (h : W.ownsRow base e size v n xs) (hg : W.grownBy W' v.ownBlock) (hb : base ≤ W.heap.size) : Below base W W' :=
  (Below.refl base W).grown hg hb (fun k e => (h.lt k e).1)

theorem block_low {W W' : World} {base k : Nat} {o : Obj} (h : W.heap[k]? = some o) (hb : Below base W W') (hk : k < base) : W'.heap[k]? = some o := by rw [hb.block k hk]; exact h

/-- Bytes laid in a block, to be appended. -/
theorem byte_news (W : World) (B : ByteArray) (cs : Array Value) (hc : cs.toList = bytesV B) : ∀ j u, (bytesV B)[j]? = some u → (W.alloc (.cells cs 5)).cell? ((⟨W.heap.size, 0, none⟩ : Addr).add j) = some u := by
  rw [← hc]
  exact World.news_of_block (cs := cs) (t := 5) (fr := (0, 0)) (heap_alloc_new W _)

theorem bytesV_len (B : ByteArray) : (bytesV B).length = B.size := by unfold bytesV; rw [List.length_map, numsB_length]

/-- The head of a packet, in its three parts. -/
theorem head_parts (K M O S z i : Nat) (p : ByteArray) : ((ByteArray.mk #[82, UInt8.ofNat K, UInt8.ofNat M, UInt8.ofNat O] ++ ByteArray.mk #[UInt8.ofNat (S % 256), UInt8.ofNat (S / 256)]) ++ ByteArray.mk #[UInt8.ofNat z, UInt8.ofNat i]) ++ p = packT K M O S z i p := by
  unfold packT headB
  congr 1

set_option maxRecDepth 100000 in
set_option maxHeartbeats 8000000 in
theorem ptext_any (K M O S z i : Nat) (p : ByteArray) (w : World) (hK : K ≤ 20) (hM : M ≤ 20) (hO : O ≤ 20) (hS : S ≤ 65535) (hz : z ≤ 255) (hi : i ≤ 255) (hp : p.size ≤ 900) :
    Calls Try.prog 80 #[.agg (pkC K M O S z i p)] w fun e w' => e = .returned (.string (packB K M O S z i p)) ∧ Below w.heap.size w w' := by
  obtain ⟨i0, hi0, hz0, hz1, hz2⟩ := info_parts Try.infoByte
  have hmk : ∀ w, (Instr.makeSlice 53 (.int .i64 0) (.int .i64 25)).run Try.prog w = .ok (.slice (some ⟨w.heap.size, 0, none⟩) 0 25) (w.alloc (.cells (madeCells #[.int .u8 0] 25) 5)) := run_make_byteRow 25 (by omega)
  have hB : packB K M O S z i p = packT K M O S z i p ++ ⟨#[chkTo (packT K M O S z i p) (packT K M O S z i p).size]⟩ := rfl
  rw [hB, chk_add]
  have hts := packT_size K M O S z i p
  have hparts := head_parts K M O S z i p
  have n1 : bytesV ⟨#[82, UInt8.ofNat K, UInt8.ofNat M, UInt8.ofNat O]⟩ = [.int .u8 82, .int .u8 (K : Int), .int .u8 (M : Int), .int .u8 (O : Int)] := by
    show [Value.int .u8 _, Value.int .u8 ((UInt8.ofNat K).toNat : Int), Value.int .u8 ((UInt8.ofNat M).toNat : Int), Value.int .u8 ((UInt8.ofNat O).toNat : Int)] = _
    rw [ofNat_u8 K (by omega), ofNat_u8 M (by omega), ofNat_u8 O (by omega)]; rfl
  have n2 : bytesV ⟨#[UInt8.ofNat (S % 256), UInt8.ofNat (S / 256)]⟩ = [.int .u8 ((S % 256 : Nat) : Int), .int .u8 ((S / 256 : Nat) : Int)] := by
    show [Value.int .u8 ((UInt8.ofNat (S % 256)).toNat : Int), Value.int .u8 ((UInt8.ofNat (S / 256)).toNat : Int)] = _
    rw [ofNat_u8 (S % 256) (by omega), ofNat_u8 (S / 256) (by omega)]
  have n3 : bytesV ⟨#[UInt8.ofNat z, UInt8.ofNat i]⟩ = [.int .u8 (z : Int), .int .u8 (i : Int)] := by
    show [Value.int .u8 ((UInt8.ofNat z).toNat : Int), Value.int .u8 ((UInt8.ofNat i).toNat : Int)] = _
    rw [ofNat_u8 z (by omega), ofNat_u8 i (by omega)]
  have s1 : (ByteArray.mk #[82, UInt8.ofNat K, UInt8.ofNat M, UInt8.ofNat O]).size = 4 := rfl
  have s2 : (ByteArray.mk #[UInt8.ofNat (S % 256), UInt8.ofNat (S / 256)]).size = 2 := rfl
  have s3 : (ByteArray.mk #[UInt8.ofNat z, UInt8.ofNat i]).size = 2 := rfl
  generalize packT K M O S z i p = T at *
  obtain ⟨y, hy⟩ : ∃ y, y = addTo T T.size := ⟨_, rfl⟩
  rw [← hy]
  have HY := hide hy
  clear hy
  generalize ByteArray.mk #[82, UInt8.ofNat K, UInt8.ofNat M, UInt8.ofNat O] = B1 at *
  generalize ByteArray.mk #[UInt8.ofNat (S % 256), UInt8.ofNat (S / 256)] = B2 at *
  generalize ByteArray.mk #[UInt8.ofNat z, UInt8.ofNat i] = B3 at *
  have HP := hide hparts
  have N1 := hide n1
  have N2 := hide n2
  have N3 := hide n3
  clear hparts n1 n2 n3 hB
  go_enter Try.func80, Try.ntmps80
  go_upto_region 3 with fail
  have hbA : Below w.heap.size w (((w.alloc (.cells (pkC K M O S z i p) 107)).alloc (specB K M O S)).alloc (.cells (madeCells #[.int .u8 0] 25) 5)) := (((Below.refl _ _).alloc (Nat.le_refl _) _).alloc (by simp) _).alloc (by simp; omega) _
  have hpk : (((w.alloc (.cells (pkC K M O S z i p) 107)).alloc (specB K M O S)).alloc (.cells (madeCells #[.int .u8 0] 25) 5)).heap[w.heap.size]? = some (.cells (pkC K M O S z i p) 107 (0, 0)) := by
    rw [heap_alloc_old _ _ (by simp; omega), heap_alloc_old _ _ (by simp)]; exact heap_alloc_new w _
  have hsp : (((w.alloc (.cells (pkC K M O S z i p) 107)).alloc (specB K M O S)).alloc (.cells (madeCells #[.int .u8 0] 25) 5)).heap[w.heap.size + 1]? = some (specB K M O S) := by
    rw [heap_alloc_old _ _ (by simp)]; exact heap_alloc2_new w _ _
  have hown : (((w.alloc (.cells (pkC K M O S z i p) 107)).alloc (specB K M O S)).alloc (.cells (madeCells #[.int .u8 0] 25) 5)).ownsRow (w.heap.size + 2) 5 1 (.slice (some ⟨w.heap.size + 1 + 1, 0, none⟩) 0 25) 0 [] := by
    have := World.ownsRow_made (base := w.heap.size + 2) (e := 5) (size := 1) ((w.alloc (.cells (pkC K M O S z i p) 107)).alloc (specB K M O S)) (madeCells #[.int .u8 0] 25) 25 (by simp) (by unfold maxLen; omega) (by simp [size_madeCells])
    simpa using this
  have hsz : w.heap.size + 2 ≤ (((w.alloc (.cells (pkC K M O S z i p) 107)).alloc (specB K M O S)).alloc (.cells (madeCells #[.int .u8 0] 25) 5)).heap.size := by simp
  generalize ((w.alloc (.cells (pkC K M O S z i p) 107)).alloc (specB K M O S)).alloc (.cells (madeCells #[.int .u8 0] 25) 5) = W at *
  clear hmk
  obtain ⟨c0, c1, c2, c3⟩ := spec_cells hsp
  go_wp2_with (at_builtin; refine wpList_append_lies _ rfl (.tmp 9) (.tmp 19) 53 rfl (w.heap.size + 2) 5 i0 (.int .u8 0) 1 1 Try.underlying53 hi0 hz0 hz1 hz2 rfl (by decide) _ _ _ rfl (hown.alloc _) ⟨W.heap.size, 0, none⟩ 4 4 (bytesV B1) rfl (by rw [bytesV_len, s1]) (byte_news W B1 _ (by rw [N1.out])) (bytesV_one B1) (by decide) (by unfold maxLen; omega) (by omega) (by simp; omega) (W.heap.size + 1) (by simp) ?_)
  intro g1 k1 W1 hown1 hgr1 hat1 hlt1
  have hb1 := below_own hown hgr1 hsz
  have hpk1 := block_low hpk hb1 (by omega)
  have hsp1 := block_low hsp hb1 (by omega)
  have hsz1 := Nat.le_trans hsz hb1.size
  have hbA1 := hbA.trans (hb1.mono (by omega))
  have hown1' : W1.ownsRow (w.heap.size + 2) 5 1 (.slice (some ⟨g1, 0, none⟩) 4 k1) 4 (bytesV B1) := hown1
  clear hown hgr1 hat1 hlt1 hpk hsp hbA hb1 c0 c1 c2 c3 hown1 hsz
  obtain ⟨c0, c1, c2, c3⟩ := spec_cells hsp1
  go_wp2_with (at_builtin; refine wpList_append_lies _ rfl (.tmp 21) (.tmp 30) 53 rfl (w.heap.size + 2) 5 i0 (.int .u8 0) 1 1 Try.underlying53 hi0 hz0 hz1 hz2 rfl (by decide) _ _ _ rfl (hown1'.alloc _) ⟨W1.heap.size, 0, none⟩ 2 2 (bytesV B2) rfl (by rw [bytesV_len, s2]) (byte_news W1 B2 _ (by rw [N2.out]; rfl)) (bytesV_one B2) (by decide) (by unfold maxLen; omega) (by omega) (by simp; omega) (W1.heap.size + 1) (by simp) ?_)
  intro g2 k2 W2 hown2 hgr2 hat2 hlt2
  have hb2 := below_own hown1' hgr2 hsz1
  have hpk2 := block_low hpk1 hb2 (by omega)
  have hsz2 := Nat.le_trans hsz1 hb2.size
  have hbA2 := hbA1.trans (hb2.mono (by omega))
  have hown2' : W2.ownsRow (w.heap.size + 2) 5 1 (.slice (some ⟨g2, 0, none⟩) 6 k2) 6 (bytesV (B1 ++ B2)) := by rw [bytesV_app]; exact hown2
  clear hown1' hgr2 hat2 hlt2 hpk1 hsp1 hbA1 hb2 c0 c1 c2 c3 hown2 hsz1
  obtain ⟨c0, c1, c2, c3, c4, c5, c6⟩ := pk_cells hpk2
  clear c0 c1 c2 c3
  go_wp2_with (at_builtin; refine wpList_append_lies _ rfl (.tmp 32) (.tmp 39) 53 rfl (w.heap.size + 2) 5 i0 (.int .u8 0) 1 1 Try.underlying53 hi0 hz0 hz1 hz2 rfl (by decide) _ _ _ rfl (hown2'.alloc _) ⟨W2.heap.size, 0, none⟩ 2 2 (bytesV B3) rfl (by rw [bytesV_len, s3]) (byte_news W2 B3 _ (by rw [N3.out])) (bytesV_one B3) (by decide) (by unfold maxLen; omega) (by omega) (by simp; omega) (W2.heap.size + 1) (by simp) ?_)
  intro g3 k3 W3 hown3 hgr3 hat3 hlt3
  have hb3 := below_own hown2' hgr3 hsz2
  have hpk3 := block_low hpk2 hb3 (by omega)
  have hsz3 := Nat.le_trans hsz2 hb3.size
  have hbA3 := hbA2.trans (hb3.mono (by omega))
  have hown3' : W3.ownsRow (w.heap.size + 2) 5 1 (.slice (some ⟨g3, 0, none⟩) 8 k3) 8 (bytesV (B1 ++ B2 ++ B3)) := by rw [bytesV_app (B1 ++ B2)]; exact hown3
  clear hown2' hgr3 hat3 hlt3 hpk2 hbA2 hb3 c4 c5 c6 hown3 hsz2
  obtain ⟨c0, c1, c2, c3, c4, c5, c6⟩ := pk_cells hpk3
  clear c0 c1 c2 c3 c4 c5
  go_wp2_with (at_builtin; refine Go.Lib.wpList_append_own_string _ rfl (.tmp 41) (.tmp 43) 53 9 rfl (w.heap.size + 2) 5 i0 Try.underlying53 Try.underlying9 hi0 hz0 hz1 hz2 _ _ _ rfl hown3' p rfl (by unfold maxLen; omega) (by omega) (by omega) ?_)
  intro v4 W4 hown4 hgr4 hn4
  have hb4 := below_ownS hown3' hgr4 hsz3
  have hsz4 := Nat.le_trans hsz3 hb4.size
  have hbA4 := hbA3.trans (hb4.mono (by omega))
  rw [bytesV_str, ← bytesV_app, HP.out] at hown4
  obtain ⟨g4, k4, rfl, hg4, hgl4⟩ := hown4.form (by omega)
  have hcv4 := conv_own T _ _ _ W4 hown4 (by omega) (by omega)
  have htot : ∀ W, Calls Try.prog 95 #[.string T] W fun e w' => e = .returned (.int .u8 ((addTo T T.size).toNat : Int)) ∧ w' = W := fun W => ptotal_any T W (by omega)
  have hng := neg_u8 (addTo T T.size)
  rw [← HY.out] at htot hng
  clear hown3' hgr4 hn4 hbA3 hb4 c6 hsz3 hpk3 HP N1 N2 N3 s1 s2 s3
  go_wp2_with fail
  refine (htot _).mono ?_
  rintro e W5 ⟨rfl, rfl⟩
  clear hcv4 htot
  have n5 : bytesV ⟨#[0 - y]⟩ = [.int .u8 (-((y).toNat : Int) % 256)] := by rw [hng]; rfl
  have s5 : (ByteArray.mk #[0 - y]).size = 1 := rfl
  have hTB : (T ++ ⟨#[0 - y]⟩).size = 8 + p.size + 1 := by rw [ByteArray.size_append, hts]; rfl
  have N5 := hide n5
  obtain ⟨B5, hB5⟩ : ∃ B5, B5 = ByteArray.mk #[0 - y] := ⟨_, rfl⟩
  rw [← hB5] at N5 s5 hTB
  have HB5 := hide hB5
  clear hB5
  clear n5 hng
  go_wp2_with (at_builtin; refine wpList_append_lies _ rfl (.tmp 49) (.tmp 51) 53 rfl (w.heap.size + 2) 5 i0 (.int .u8 0) 1 1 Try.underlying53 hi0 hz0 hz1 hz2 rfl (by decide) _ _ _ rfl (hown4.alloc _) ⟨W5.heap.size, 0, none⟩ 1 1 (bytesV B5) rfl (by rw [bytesV_len, s5]) (byte_news W5 B5 _ (by rw [N5.out])) (bytesV_one B5) (by decide) (by unfold maxLen; omega) (by omega) (by simp; omega) (W5.heap.size + 1) (by simp) ?_)
  intro g6 k6 W6 hown6 hgr6 hat6 hlt6
  have hb6 := below_own hown4 hgr6 hsz4
  have hbA6 := hbA4.trans (hb6.mono (by omega))
  rw [← bytesV_app] at hown6
  have hcv6 := conv_own (T ++ B5) _ _ _ W6 hown6 hTB.symm (by omega)
  clear hown4 hgr6 hat6 hlt6 hbA4 hb6 hsz4 hown6 N5
  go_wp2_with fail
  go_ret
  exact ⟨by rw [← HB5.out]; rfl, hbA6⟩

end Go.Proofs.Ytnjaofkieajnlaa
