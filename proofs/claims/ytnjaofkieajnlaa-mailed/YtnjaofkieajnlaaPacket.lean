/- The document's own packets. -/
import Derived.Test.YtnjaofkieajnlaaPlus
import Derived.Test.YtnjaofkieajnlaaBits
import Derived.Test.YtnjaofkieajnlaaRowed
namespace Go.Proofs.Ytnjaofkieajnlaa
open Go.RowKit

theorem heap_alloc2p (w : World) (a b : Obj) : ((w.alloc a).alloc b).heap[w.heap.size + 1]? = some b := by
  have h := heap_alloc_new (w.alloc a) b
  rw [World.size_alloc] at h
  exact h

/-- The bytes of a packet's head behind its first. -/
def headB (K M O S z i : Nat) : ByteArray := ⟨#[UInt8.ofNat K, UInt8.ofNat M, UInt8.ofNat O, UInt8.ofNat (S % 256), UInt8.ofNat (S / 256), UInt8.ofNat z, UInt8.ofNat i]⟩

/-- A packet without its last byte. -/
def packT (K M O S z i : Nat) (p : ByteArray) : ByteArray := ⟨#[82]⟩ ++ headB K M O S z i ++ p

/-- The byte that makes the sum of the first k bytes nought. -/
def chkTo (t : ByteArray) : Nat → UInt8
  | 0 => 0
  | k + 1 => chkTo t k - byteAt t k

/-- A packet. -/
def packB (K M O S z i : Nat) (p : ByteArray) : ByteArray := packT K M O S z i p ++ ⟨#[chkTo (packT K M O S z i p) (packT K M O S z i p).size]⟩

theorem ofNat_u8 (n : Nat) (h : n ≤ 255) : ((UInt8.ofNat n).toNat : Int) = (n : Int) := by
  rw [UInt8.toNat_ofNat']
  omega

theorem numsB_head (K M O S z i : Nat) (hK : K ≤ 20) (hM : M ≤ 20) (hO : O ≤ 20) (hS : S ≤ 65535) (hz : z ≤ 255) (hi : i ≤ 255) : numsB (headB K M O S z i) = [(K : Int), (M : Int), (O : Int), ((S % 256 : Nat) : Int), ((S / 256 : Nat) : Int), (z : Int), (i : Int)] := by
  show [((UInt8.ofNat K).toNat : Int), ((UInt8.ofNat M).toNat : Int), ((UInt8.ofNat O).toNat : Int), ((UInt8.ofNat (S % 256)).toNat : Int), ((UInt8.ofNat (S / 256)).toNat : Int), ((UInt8.ofNat z).toNat : Int), ((UInt8.ofNat i).toNat : Int)] = _
  rw [ofNat_u8 K (by omega), ofNat_u8 M (by omega), ofNat_u8 O (by omega), ofNat_u8 (S % 256) (by omega), ofNat_u8 (S / 256) (by omega), ofNat_u8 z hz, ofNat_u8 i hi]

theorem packT_size (K M O S z i : Nat) (p : ByteArray) : (packT K M O S z i p).size = 8 + p.size := by
  unfold packT
  rw [ByteArray.size_append, ByteArray.size_append]; rfl

theorem low_byte (S : Nat) (h : S ≤ 65535) : bits BinOp.and IntKind.i64 (S : Int) 255 % 256 = ((S % 256 : Nat) : Int) := by
  rw [show (255 : Int) = ((255 : Nat) : Int) from rfl, i64_and_nat S 255 (by omega) (by omega), show (255 : Nat) = 2 ^ 8 - 1 from rfl, Nat.and_two_pow_sub_one_eq_mod]
  omega

theorem sub_u8 (a b : UInt8) : ((a.toNat : Int) - (b.toNat : Int)) % 256 = ((a - b).toNat : Int) := by
  have h1 := a.toNat_lt
  have h2 := b.toNat_lt
  rw [UInt8.toNat_sub]
  omega

/-- Bytes of a block of the call's own, as a text. -/
theorem conv_block (B : ByteArray) (q : Nat) (cs : Array Value) (w : World) (h : w.heap[q]? = some (.cells cs 5 (0, 0))) (hc : cs = ((numsB B).map (Value.int .u8)).toArray) : (convert 53 9 (.slice (some ⟨q, 0, none⟩) B.size B.size)).run Try.prog w = .ok (.string B) w := by
  have hcells : ∀ j, j < B.size → w.cell? ⟨q, 0 + j, none⟩ = some (.int .u8 ((numsB B).getD j 0)) := fun j hj => by
    rw [Nat.zero_add, cell_of_row _ _ _ _ _ _ h, hc, List.getElem?_toArray, List.getElem?_map, List.getD_eq_getElem?_getD, List.getElem?_eq_getElem (by rw [numsB_length]; exact hj)]
    rfl
  have hcv := run_convert_bytes_arg (P := Try.prog) w 53 5 Try.underlying53 Try.underlying5 q 0 B.size B.size (numsB B) (numsB_length B) hcells 9 Try.underlying9
  rw [strOfNums_numsB] at hcv
  exact hcv

set_option maxRecDepth 100000 in
set_option maxHeartbeats 8000000 in
theorem packet_any (K M O S z i : Nat) (p : ByteArray) (w : World) (hK : K ≤ 20) (hM : M ≤ 20) (hO : O ≤ 20) (hS : S ≤ 65535) (hz : z ≤ 255) (hi : i ≤ 255) (hp : p.size ≤ 1000) :
    Calls Try.prog 63 #[specV K M O S, .int .i64 (z : Int), .int .i64 (i : Int), .string p] w fun e w' => e = .returned (.string (packB K M O S z i p)) ∧ Below w.heap.size w w' := by
  have hlow := low_byte S hS
  have hcv := conv_block (headB K M O S z i) (w.heap.size + 1) #[.int .u8 (K : Int), .int .u8 (M : Int), .int .u8 (O : Int), .int .u8 (bits BinOp.and IntKind.i64 (S : Int) 255 % 256), .int .u8 ((S : Int) / 256), .int .u8 (z : Int), .int .u8 (i : Int)] ((w.alloc (.cells #[.int .i64 (K : Int), .int .i64 (M : Int), .int .i64 (O : Int), .int .i64 (S : Int)] 23)).alloc (.cells #[.int .u8 (K : Int), .int .u8 (M : Int), .int .u8 (O : Int), .int .u8 (bits BinOp.and IntKind.i64 (S : Int) 255 % 256), .int .u8 ((S : Int) / 256), .int .u8 (z : Int), .int .u8 (i : Int)] 5)) (heap_alloc2p w _ _) (by rw [numsB_head K M O S z i hK hM hO hS hz hi, hlow]; rfl)
  have hcv' : (convert 53 9 (.slice (some ⟨w.heap.size + 1, 0, none⟩) 7 7)).run Try.prog ((w.alloc (.cells #[.int .i64 (K : Int), .int .i64 (M : Int), .int .i64 (O : Int), .int .i64 (S : Int)] 23)).alloc (.cells #[.int .u8 (K : Int), .int .u8 (M : Int), .int .u8 (O : Int), .int .u8 (bits BinOp.and IntKind.i64 (S : Int) 255 % 256), .int .u8 ((S : Int) / 256), .int .u8 (z : Int), .int .u8 (i : Int)] 5)) = .ok (.string (headB K M O S z i)) _ := hcv
  have hts := packT_size K M O S z i p
  have hT : packT K M O S z i p = ⟨#[82]⟩ ++ headB K M O S z i ++ p := rfl
  have hB : packB K M O S z i p = packT K M O S z i p ++ ⟨#[chkTo (packT K M O S z i p) (packT K M O S z i p).size]⟩ := rfl
  rw [hB]
  clear hcv hlow hB
  have hhs : (headB K M O S z i).size = 7 := rfl
  generalize headB K M O S z i = hd at *
  generalize packT K M O S z i p = t at *
  have HT := hide hT
  have htb : t.size ≤ 1008 := by omega
  have Hts := hide hts
  clear hT hts
  go_enter Try.func63, Try.ntmps63
  go_wp2_with fail
  clear hcv'
  have hbA : Below w.heap.size w ((w.alloc (.cells #[.int .i64 (K : Int), .int .i64 (M : Int), .int .i64 (O : Int), .int .i64 (S : Int)] 23)).alloc (.cells #[.int .u8 (K : Int), .int .u8 (M : Int), .int .u8 (O : Int), .int .u8 (bits BinOp.and IntKind.i64 (S : Int) 255 % 256), .int .u8 ((S : Int) / 256), .int .u8 (z : Int), .int .u8 (i : Int)] 5)) := ((Below.refl _ _).alloc (Nat.le_refl _) _).alloc (by simp) _
  generalize (w.alloc (.cells #[.int .i64 (K : Int), .int .i64 (M : Int), .int .i64 (O : Int), .int .i64 (S : Int)] 23)).alloc (.cells #[.int .u8 (K : Int), .int .u8 (M : Int), .int .u8 (O : Int), .int .u8 (bits BinOp.and IntKind.i64 (S : Int) 255 % 256), .int .u8 ((S : Int) / 256), .int .u8 (z : Int), .int .u8 (i : Int)] 5) = W at *
  rw [← HT.out]
  clear HT
  go_loop [10, 40] (fun sv iv => ∃ k : Nat, k ≤ 8 + p.size ∧ iv = .int .i64 (k : Int) ∧ sv = .int .u8 ((chkTo t k).toNat : Int)) (fun _ iv => 8 + p.size - (intOf iv).toNat)
  case atStart => exact ⟨0, Nat.zero_le _, rfl, rfl⟩
  case round =>
    obtain ⟨k, hk, rfl, rfl⟩ := hrel
    by_cases hlt : k < 8 + p.size
    · have hlt' : k < t.size := by rw [Hts.out]; exact hlt
      have g2 := byteAt_get t k hlt'
      have hsu := sub_u8 (chkTo t k) (byteAt t k)
      have hnx : chkTo t (k + 1) = chkTo t k - byteAt t k := rfl
      have Hnx := hide hnx
      have Hsu := hide hsu
      have i1 : (0 : Int) ≤ (k : Int) := by omega
      have i2 : (k : Int) < (t.size : Int) := by omega
      clear hnx hsu
      go_wp2_with fail
      go_round
      case rel => exact ⟨k + 1, by omega, by go_num, by rw [Hnx.out, ← Hsu.out]⟩
      case measure => simp [intOf]; omega
    · have hkk : k = 8 + p.size := by omega
      subst hkk
      have hcv := conv_block ⟨#[chkTo t (8 + p.size)]⟩ W.heap.size #[.int .u8 ((chkTo t (8 + p.size)).toNat : Int)] (W.alloc (.cells #[.int .u8 ((chkTo t (8 + p.size)).toNat : Int)] 5)) (heap_alloc_new W _) rfl
      have hcv' : (convert 53 9 (.slice (some ⟨W.heap.size, 0, none⟩) 1 1)).run Try.prog (W.alloc (.cells #[.int .u8 ((chkTo t (8 + p.size)).toNat : Int)] 5)) = .ok (.string ⟨#[chkTo t (8 + p.size)]⟩) _ := hcv
      have hbf := hbA.alloc hbA.size (.cells #[.int .u8 ((chkTo t (8 + p.size)).toNat : Int)] 5)
      clear hcv
      go_wp2_with fail
      go_ret
      exact ⟨by rw [Hts.out]; rfl, hbf⟩

end Go.Proofs.Ytnjaofkieajnlaa
