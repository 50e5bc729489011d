/- The document's own data of an object. -/
import Derived.Test.YtnjaofkieajnlaaPacket
import Derived.Test.YtnjaofkieajnlaaWSpare
namespace Go.Proofs.Ytnjaofkieajnlaa
open Go.RowKit

/-- The two bytes of a length. -/
def lenB (n : Nat) : ByteArray := ⟨#[UInt8.ofNat (n % 256), UInt8.ofNat (n / 256)]⟩

theorem numsB_len (n : Nat) (h : n ≤ 65535) : numsB (lenB n) = [((n % 256 : Nat) : Int), ((n / 256 : Nat) : Int)] := by
  show [((UInt8.ofNat (n % 256)).toNat : Int), ((UInt8.ofNat (n / 256)).toNat : Int)] = _
  rw [ofNat_u8 (n % 256) (by omega), ofNat_u8 (n / 256) (by omega)]

/-- The text of an object's data, for N bytes. -/
def objT (N : Nat) (o : ByteArray) : ByteArray := lenB o.size ++ o ++ zeroB (N - (2 + o.size))

/-- The pieces of a text. -/
def cutTo (t : ByteArray) (z : Nat) : Nat → List ByteArray
  | 0 => []
  | j + 1 => cutTo t z j ++ [t.extract (j * z) (j * z + z)]

theorem cutTo_length (t : ByteArray) (z j : Nat) : (cutTo t z j).length = j := by
  induction j with
  | zero => rfl
  | succ j ih => show (cutTo t z j ++ [_]).length = _; rw [List.length_append, ih]; rfl

/-- How long a text is. -/
def lenV (v : Value) : Nat := match v with
  | .string b => b.size
  | _ => 0

theorem pad_succ (t : ByteArray) (k : Nat) : t ++ zeroB k ++ ⟨#[0]⟩ = t ++ zeroB (k + 1) := by
  rw [ByteArray.append_assoc, zeroB_succ]

set_option maxRecDepth 100000 in
set_option maxHeartbeats 8000000 in
theorem data_any (M O S : Int) (K z N : Nat) (o : ByteArray) (w : World) (hz : 1 ≤ z ∧ z ≤ 16) (hK : K ≤ 20) (hN : N = K * z) (ho : o.size + 2 ≤ N) :
    Calls Try.prog 62 #[specV K M O S, .int .i64 (z : Int), .string o] w fun e w' => ∃ v, e = .returned v ∧ w'.ownsRow w.heap.size 9 1 v K (textV (cutTo (objT N o) z K)) ∧ Below w.heap.size w w' := by
  have hN2 : N ≤ 320 := by rw [hN]; exact Nat.le_trans (Nat.mul_le_mul hK hz.2) (by decide)
  have hlow := low_byte o.size (by omega)
  have hmul : (K : Int) * (z : Int) = (N : Int) := by rw [hN]; simp
  have hm1 : 0 ≤ (K : Int) * (z : Int) := by rw [hmul]; omega
  have hm2 : (K : Int) * (z : Int) ≤ 320 := by rw [hmul]; omega
  have hcv := conv_block (lenB o.size) (w.heap.size + 1) #[.int .u8 (bits BinOp.and IntKind.i64 (o.size : Int) 255 % 256), .int .u8 ((o.size : Int) / 256)] ((w.alloc (.cells #[.int .i64 (K : Int), .int .i64 M, .int .i64 O, .int .i64 S] 23)).alloc (.cells #[.int .u8 (bits BinOp.and IntKind.i64 (o.size : Int) 255 % 256), .int .u8 ((o.size : Int) / 256)] 5)) (heap_alloc2p w _ _) (by rw [numsB_len o.size (by omega), hlow]; rfl)
  have hcv' : (convert 53 9 (.slice (some ⟨w.heap.size + 1, 0, none⟩) 2 2)).run Try.prog ((w.alloc (.cells #[.int .i64 (K : Int), .int .i64 M, .int .i64 O, .int .i64 S] 23)).alloc (.cells #[.int .u8 (bits BinOp.and IntKind.i64 (o.size : Int) 255 % 256), .int .u8 ((o.size : Int) / 256)] 5)) = .ok (.string (lenB o.size)) _ := hcv
  have hls : (lenB o.size).size = 2 := rfl
  obtain ⟨j0, gi, gz0, gz1, gz2⟩ := info_parts Try.infoText
  clear hcv hlow
  have hob : objT N o = lenB o.size ++ o ++ zeroB (N - (2 + o.size)) := rfl
  have hos : (objT N o).size = N := by rw [hob, ByteArray.size_append, ByteArray.size_append, zeroB_size]; show 2 + o.size + (N - (2 + o.size)) = N; omega
  generalize lenB o.size = lb at *
  generalize objT N o = T at *
  have HO := hide hob
  have hsp : ((w.alloc (.cells #[.int .i64 (K : Int), .int .i64 M, .int .i64 O, .int .i64 S] 23)).alloc (.cells #[.int .u8 (bits BinOp.and IntKind.i64 (o.size : Int) 255 % 256), .int .u8 ((o.size : Int) / 256)] 5)).cell? ⟨w.heap.size, 0, none⟩ = some (.int .i64 (K : Int)) := by
    rw [World.cell?_alloc_lt _ _ _ (by simp), cell_of_row _ _ _ _ _ _ (heap_alloc_new w _)]; rfl
  have hbA : Below w.heap.size w ((w.alloc (.cells #[.int .i64 (K : Int), .int .i64 M, .int .i64 O, .int .i64 S] 23)).alloc (.cells #[.int .u8 (bits BinOp.and IntKind.i64 (o.size : Int) 255 % 256), .int .u8 ((o.size : Int) / 256)] 5)) := ((Below.refl _ _).alloc (Nat.le_refl _) _).alloc (by simp) _
  clear hob
  go_enter Try.func62, Try.ntmps62
  go_wp2_with fail
  clear hcv'
  generalize (w.alloc (.cells #[.int .i64 (K : Int), .int .i64 M, .int .i64 O, .int .i64 S] 23)).alloc (.cells #[.int .u8 (bits BinOp.and IntKind.i64 (o.size : Int) 255 % 256), .int .u8 ((o.size : Int) / 256)] 5) = W at *
  have hts : (lb ++ o).size = 2 + o.size := by rw [ByteArray.size_append, hls]
  generalize lb ++ o = t0 at *
  have HM := hide hmul
  have HN := hide hN
  clear hmul hN
  go_loop [8] (fun tv => ∃ k : Nat, 2 + o.size + k ≤ N ∧ tv = .string (t0 ++ zeroB k)) (fun tv => N - lenV tv)
  case atStart => exact ⟨0, by omega, by rw [show zeroB 0 = ByteArray.empty from rfl, ByteArray.append_empty]⟩
  case round =>
    obtain ⟨k, hk1, rfl⟩ := hrel
    have hps := pad_succ t0 k
    have hsk : (t0 ++ zeroB k).size = 2 + o.size + k := by rw [ByteArray.size_append, hts, zeroB_size]
    have hsk1 : (t0 ++ zeroB (k + 1)).size = 2 + o.size + k + 1 := by rw [ByteArray.size_append, hts, zeroB_size]; omega
    have Hps := hide hps
    clear hps
    by_cases hlt : 2 + o.size + k < N
    · have hc1 : ((2 : Int) + (o.size : Int) + (k : Int)) < (K : Int) * (z : Int) := by rw [HM.out]; omega
      generalize t0 ++ zeroB k = tk at *
      go_wp2_with fail
      go_round
      case rel => exact ⟨k + 1, by omega, by rw [Hps.out]⟩
      case measure =>
        show N - (tk ++ ⟨#[0]⟩).size < N - tk.size
        rw [ByteArray.size_append, hsk]
        show N - (2 + o.size + k + 1) < N - (2 + o.size + k)
        omega
    · have hc1 : ¬ ((2 : Int) + (o.size : Int) + (k : Int)) < (K : Int) * (z : Int) := by rw [HM.out]; omega
      have hkN : k = N - (2 + o.size) := by omega
      have hT : t0 ++ zeroB k = T := by rw [hkN]; exact HO.out.symm
      rw [hT]
      rw [hT] at hsk
      clear HO hT hsk1 Hps hkN
      go_wp2_with fail
      go_loopw [8, 9] (fun tv ov wr => ∃ (j m : Nat), j ≤ K ∧ m = j * z ∧ tv = .string (T.extract m N) ∧ wr.ownsRow w.heap.size 9 1 ov j (textV (cutTo T z j)) ∧ Below w.heap.size w wr) (fun tv _ _ => lenV tv)
      case atStart => exact ⟨0, 0, Nat.zero_le _, by simp, by rw [← hos, ByteArray.extract_zero_size], World.ownsRow_nil _ _ _ _, hbA⟩
      case round =>
        obtain ⟨j, m, hj, hm, rfl, hown, hbw⟩ := hrel
        have hmN : m ≤ N := by rw [hm, HN.out]; exact Nat.mul_le_mul_right z hj
        have hms : (T.extract m N).size = N - m := by rw [ByteArray.size_extract]; omega
        by_cases hjK : j < K
        · have hmz : m + z ≤ N := by rw [hm, HN.out, ← Nat.succ_mul]; exact Nat.mul_le_mul_right z hjK
          have hm2 : m + z = (j + 1) * z := by rw [hm, Nat.succ_mul]
          have e1 : (T.extract m N).extract 0 z = T.extract m (m + z) := by rw [ByteArray.extract_extract]; congr 1; omega
          have e2 : (T.extract m N).extract z (N - m) = T.extract (m + z) N := by rw [ByteArray.extract_extract]; congr 1; omega
          have hcut : cutTo T z (j + 1) = cutTo T z j ++ [T.extract m (m + z)] := by rw [hm]; rfl
          have hes : (T.extract (m + z) N).size = N - (m + z) := by rw [ByteArray.size_extract]; omega
          have H1 := hide e1
          have H2 := hide e2
          have H3 := hide hcut
          have H4 := hide hm2
          clear e1 e2 hcut hm2 hm
          generalize T.extract m N = tm at *
          have hwsz := hbw.size
          go_wp2_with (at_builtin; refine wpList_append_lies _ rfl (.tmp 34) (.tmp 38) 28 rfl w.heap.size 9 j0 (.string ByteArray.empty) 1 16 Try.underlying28 gi gz0 gz1 gz2 rfl (by decide) _ _ _ rfl (hown.alloc _) ⟨wr.heap.size, 0, none⟩ 1 1 [.string (tm.extract 0 z)] rfl rfl (one_news _ _ _) (one_oneCell rfl) (by decide) (by unfold maxLen; omega) (by omega) (by simp; omega) (wr.heap.size + 1) (by simp) ?_)
          intro g cap w2 hown2 hgr2 hat2 hlt2
          have hb2 : Below w.heap.size w w2 := hbw.grown (grownBy_of_alloc hgr2) hbw.size (fun k e => (hown.lt k e).1)
          rw [H1.out] at hown2
          have hown3 : w2.ownsRow w.heap.size 9 1 (.slice (some ⟨g, 0, none⟩) (j + 1) cap) (j + 1) (textV (cutTo T z (j + 1))) := by rw [H3.out, textV_append]; exact hown2
          clear hown2 hgr2 hat2 hown
          go_wp2_with fail
          go_roundw
          case rel => exact ⟨j + 1, m + z, by omega, H4.out, by rw [← H2.out], hown3, hb2⟩
          case measure =>
            show (tm.extract z (N - m)).size < tm.size
            rw [ByteArray.size_extract, hms]
            omega
        · have hjj : j = K := by omega
          have hmm : m = N := by rw [hm, hjj, HN.out]
          subst hjj
          rw [hmm] at hms ⊢
          have hms0 : (T.extract N N).size = 0 := by omega
          generalize T.extract N N = tm at *
          clear hm hmm
          go_wp2_with fail
          go_ret
          exact ⟨_, rfl, hown, hbw⟩

end Go.Proofs.Ytnjaofkieajnlaa
