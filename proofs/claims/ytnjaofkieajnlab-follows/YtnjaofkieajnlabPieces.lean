/- The pieces that the statements make of a text's bytes: as many as asked, each of the size asked. -/
import Derived.Test.YtnjaofkieajnlabKeep
namespace Go.Proofs.Ytnjaofkieajnlab
open Go.RowKit

theorem u8_of (x : Int) (h : 0 ≤ x ∧ x ≤ 255) : ∃ y : UInt8, x = (y.toNat : Int) := ⟨UInt8.ofNat x.toNat, by
  rw [UInt8.toNat_ofNat']
  omega⟩

theorem bytesV_push (b : ByteArray) (y : UInt8) : bytesV (b.push y) = bytesV b ++ [.int .u8 (y.toNat : Int)] := by
  unfold bytesV numsB
  cases b
  simp [ByteArray.push]

theorem u8_wrap_bd (x : Int) : 0 ≤ IntKind.u8.wrap x ∧ IntKind.u8.wrap x ≤ 255 := by
  rw [IntKind.wrap_u8']
  omega

set_option maxRecDepth 100000 in
set_option maxHeartbeats 4000000 in
theorem pieces_any (n z : Nat) (text : ByteArray) (w : World) (hn : n ≤ 1000) (hz : 1 ≤ z ∧ z ≤ 100) (ht : text.size ≤ 9223372036854775807) :
    Calls Try.prog 10 #[.int .i64 (n : Int), .int .i64 (z : Int), .string text] w fun e w' => ∃ v l, e = .returned v ∧ l.length = n ∧ (∀ x ∈ l, x.size = z) ∧ w'.ownsRow w.heap.size 9 1 v n (textV l) ∧ Below w.heap.size w w' := by
  obtain ⟨i0, hi, hz0, hz1, hz2⟩ := info_parts Try.infoByte
  obtain ⟨j0, gi, gz0, gz1, gz2⟩ := info_parts Try.infoText
  go_enter Try.func10, Try.ntmps10
  go_wp2_with fail
  go_loopw [7, 8, 13] (fun v at_ t wr => ∃ (i a : Nat) (l : List ByteArray), i ≤ n ∧ t = .int .i64 i ∧ at_ = .int .i64 a ∧ a ≤ 100 * i ∧ l.length = i ∧ (∀ x ∈ l, x.size = z) ∧ wr.ownsRow w.heap.size 9 1 v i (textV l) ∧ Below w.heap.size w wr) (fun _ _ t _ => n - (intOf t).toNat)
  case atStart => exact ⟨0, 0, [], Nat.zero_le _, rfl, rfl, by omega, rfl, fun x hx => by simp at hx, World.ownsRow_nil _ _ _ _, Below.refl _ _⟩
  case round =>
    obtain ⟨i, a, l, hin, rfl, rfl, ha, hli, hls, hown, hbel⟩ := hrel
    have Hls := hide hls
    have Hli := hide hli
    clear hls hli
    by_cases hlt : i < n
    · obtain ⟨W2, rfl⟩ : ∃ W, W = wr := ⟨_, rfl⟩
      go_wp2_with fail
      go_loopw [8, 10, 17] (fun at_ v t wr => ∃ (k a : Nat) (b : ByteArray), k ≤ z ∧ t = .int .i64 k ∧ at_ = .int .i64 a ∧ a ≤ 100 * i + k ∧ b.size = k ∧ wr.ownsRow W2.heap.size 5 1 v k (bytesV b) ∧ Below W2.heap.size W2 wr) (fun _ _ t _ => z - (intOf t).toNat)
      case atStart => exact ⟨0, a, ByteArray.empty, Nat.zero_le _, rfl, rfl, by omega, rfl, World.ownsRow_nil _ _ _ _, Below.refl _ _⟩
      case round =>
        obtain ⟨k, a2, b, hkz, rfl, rfl, ha2, hbs, hownb, hbel2⟩ := hrel
        have Hbs := hide hbs
        clear hbs
        have hsz := hbel2.size
        by_cases hkl : k < z
        · have hst : ∀ (y : UInt8) (w3 : World) (gg cap : Nat), w3.ownsRow W2.heap.size 5 1 (.slice (some ⟨gg, 0, none⟩) (k + 1) cap) (k + 1) (bytesV b ++ [.int .u8 (y.toNat : Int)]) → w3.ownsRow W2.heap.size 5 1 (.slice (some ⟨gg, 0, none⟩) (k + 1) cap) (k + 1) (bytesV (b.push y)) := fun y w3 gg cap h => by rw [bytesV_push]; exact h
          have hps : ∀ y : UInt8, (b.push y).size = k + 1 := fun y => by rw [ByteArray.size_push, Hbs.out]
          have Hst := hide hst
          have Hps := hide hps
          clear hst hps
          have hnl : 0 ≤ (a2 : Int) * 7 * (i : Int) ∧ (a2 : Int) * 7 * (i : Int) ≤ 1000000000000 := by
            have h1 : a2 * 7 * i ≤ 1000000 * 1000 := Nat.mul_le_mul (by omega) (by omega)
            have h2 : ((a2 * 7 * i : Nat) : Int) = (a2 : Int) * 7 * (i : Int) := by simp
            omega
          by_cases hts : 0 < text.size
          · have hm1 : (0 : Int) ≤ (a2 : Int) % (text.size : Int) := Int.emod_nonneg _ (by omega)
            have hm2 : (a2 : Int) % (text.size : Int) < (text.size : Int) := Int.emod_lt_of_pos _ (by omega)
            have hidx : a2 % text.size < text.size := Nat.mod_lt _ hts
            obtain ⟨y, hy⟩ := u8_of (((a2 : Int) * 7 * (i : Int) + ((text[a2 % text.size]'hidx).toNat : Int)) % 256) (by omega)
            go_wp2_with (at_builtin; refine wpList_append_lies _ rfl (.tmp 35) (.tmp 37) 55 rfl W2.heap.size 5 i0 (.int .u8 0) 1 1 Try.underlying55 hi hz0 hz1 hz2 rfl (by decide) _ _ _ rfl (hownb.alloc _) ⟨wr.heap.size, 0, none⟩ 1 1 [.int .u8 (y.toNat : Int)] rfl rfl (one_news _ _ _) (one_oneCell rfl) (by decide) (by unfold maxLen; omega) (by omega) (by simp; omega) (wr.heap.size + 1) (by simp) ?_)
            intro gg cap w3 hown3 hgr hat3 hlt3
            have hb3 : Below W2.heap.size W2 w3 := (hbel2.alloc hsz _).grown hgr (by simp; omega) (fun q hq => (hownb.lt q hq).1)
            have hown4 := Hst.out y w3 gg cap hown3
            clear hown3 hgr hat3 hbel2 hownb hy
            go_wp2
            go_roundw
            case rel => exact ⟨k + 1, a2 + 1, b.push y, by omega, by go_num, by go_num, by omega, Hps.out y, hown4, hb3⟩
            case measure => simp [intOf]; omega
          · obtain ⟨y, hy⟩ := u8_of ((a2 : Int) * 7 * (i : Int) % 256) (by omega)
            go_wp2_with (at_builtin; refine wpList_append_lies _ rfl (.tmp 35) (.tmp 37) 55 rfl W2.heap.size 5 i0 (.int .u8 0) 1 1 Try.underlying55 hi hz0 hz1 hz2 rfl (by decide) _ _ _ rfl (hownb.alloc _) ⟨wr.heap.size, 0, none⟩ 1 1 [.int .u8 (y.toNat : Int)] rfl rfl (one_news _ _ _) (one_oneCell rfl) (by decide) (by unfold maxLen; omega) (by omega) (by simp; omega) (wr.heap.size + 1) (by simp) ?_)
            intro gg cap w3 hown3 hgr hat3 hlt3
            have hb3 : Below W2.heap.size W2 w3 := (hbel2.alloc hsz _).grown hgr (by simp; omega) (fun q hq => (hownb.lt q hq).1)
            have hown4 := Hst.out y w3 gg cap hown3
            clear hown3 hgr hat3 hbel2 hownb hy
            go_wp2
            go_roundw
            case rel => exact ⟨k + 1, a2 + 1, b.push y, by omega, by go_num, by go_num, by omega, Hps.out y, hown4, hb3⟩
            case measure => simp [intOf]; omega
        · have hkz2 : k = z := by omega
          have hownb2 : wr.ownsRow W2.heap.size 5 1 u10 b.size (bytesV b) := by rw [Hbs.out]; exact hownb
          obtain ⟨g, cap, rfl, hc⟩ := owns_bytes hownb2 (by rw [Hbs.out]; omega)
          have hcv := run_convert_bytes_arg (P := Try.prog) wr 55 5 Try.underlying55 Try.underlying5 g 0 b.size cap (numsB b) (numsB_length _) hc 9 Try.underlying9
          rw [strOfNums_numsB] at hcv
          have hown2 := owns_below hown hbel2
          have hb2 := hbel.trans (hbel2.mono hbel.size)
          have hwz : w.heap.size ≤ wr.heap.size := hb2.size
          clear hc hownb hownb2 hown
          go_wp2_with (at_builtin; refine wpList_append_lies _ rfl (.tmp 42) (.tmp 45) 27 rfl w.heap.size 9 j0 (.string ByteArray.empty) 1 16 Try.underlying27 gi gz0 gz1 gz2 rfl (by decide) _ _ _ rfl (hown2.alloc _) ⟨wr.heap.size, 0, none⟩ 1 1 [.string b] rfl rfl (one_news _ _ _) (one_oneCell rfl) (by decide) (by unfold maxLen; omega) (by omega) (by simp; omega) (wr.heap.size + 1) (by simp) ?_)
          intro gg cap3 w3 hown3 hgr hat3 hlt3
          have hb3 : Below w.heap.size w w3 := (hb2.alloc hwz _).grown hgr (by simp; omega) (fun q hq => (hown2.lt q hq).1)
          clear hgr hat3 hb2 hown2 hcv
          go_wp2
          go_roundw
          case rel =>
            refine ⟨i + 1, a2, l ++ [b], by omega, by go_num, rfl, by omega, by rw [List.length_append, Hli.out]; rfl, fun x hx => ?_, by rw [textV_append]; exact hown3, hb3⟩
            rcases List.mem_append.1 hx with h | h
            · exact Hls.out x h
            · simp at h; rw [h, Hbs.out]; exact hkz2
          case measure => simp [intOf]; omega
    · go_wp2
      go_ret
      exact ⟨_, l, rfl, by rw [Hli.out]; omega, Hls.out, by have : i = n := by omega
                                                            subst this; exact hown, hbel⟩

end Go.Proofs.Ytnjaofkieajnlab
