/- The statements' own plus: the sum of two pieces. -/
import Derived.Test.YtnjaofkieajnlaaWords
namespace Go.Proofs.Ytnjaofkieajnlaa
open Go.RowKit

set_option maxRecDepth 100000 in
set_option maxHeartbeats 2000000 in
theorem kplus_any (a b : ByteArray) (w : World) (h : a.size = b.size) (h0 : 0 < a.size) (h16 : a.size ≤ 1000) :
    Calls Try.prog 32 #[.string a, .string b] w fun e w' => e = .returned (.string (xorB a b)) ∧ Below w.heap.size w w' := by
  obtain ⟨i0, hi, hz0, hz1, hz2⟩ := info_parts Try.infoByte
  go_enter Try.func32, Try.ntmps32
  go_wp2_with fail
  go_loopw [5, 9] (fun v i wr => ∃ k : Nat, k ≤ a.size ∧ i = .int .i64 k ∧ wr.ownsRow w.heap.size 5 1 v k ((bytesV (xorB a b)).take k) ∧ Below w.heap.size w wr) (fun _ i _ => a.size - (intOf i).toNat)
  case atStart => exact ⟨0, Nat.zero_le _, rfl, World.ownsRow_nil _ _ _ _, Below.refl _ _⟩
  case round =>
    obtain ⟨k, hk, rfl, hown, hbel⟩ := hrel
    by_cases hlt : k < a.size
    · have hlb : k < b.size := by omega
      have g1 := byteAt_get a k hlt
      have g2 := byteAt_get b k hlb
      have hts := bytesV_take_succ a b h k hlt
      have hx := u8_xor_nat (byteAt a k).toNat (byteAt b k).toNat (byteAt a k).toNat_lt (byteAt b k).toNat_lt
      have Ht := hide hts
      have Hh := hide h
      clear hts h
      have i1 : (0 : Int) ≤ (k : Int) := by omega
      have i2 : (k : Int) < (a.size : Int) := by omega
      have i3 : (k : Int) < (b.size : Int) := by omega
      have hsz := hbel.size
      go_wp2_with fail
      go_region_law ((refine step_append_lies _ (by rfl) (.tmp 12) (.tmp 20) 53 (by rfl) w.heap.size 5 i0 (.int .u8 0) 1 1 Try.underlying53 hi hz0 hz1 hz2 rfl (by decide) _ _ _ (by rfl) (World.ownsRow.drew (World.ownsRow.alloc hown _)) ⟨wr.heap.size, 0, none⟩ 1 1 [.int .u8 (((byteAt a k).toNat ^^^ (byteAt b k).toNat : Nat) : Int)] (by rfl) rfl (World.news_of_block (cs := #[_]) (heap_alloc_new wr _)) (one_oneCell rfl) (by decide) (by unfold maxLen; omega) (by omega) (by simp; omega) (wr.heap.size + 1) (by simp) ?_; intro gg cap w2 hown2 hgr hat2 hlt2))
      all_goals
        have hb2 : Below w.heap.size w w2 := ((hbel.alloc hsz _).drew).grown hgr (by simp; omega) (fun q hq => (hown.lt q hq).1)
        have hown3 : w2.ownsRow w.heap.size 5 1 (.slice (some ⟨gg, 0, none⟩) (k + 1) cap) (k + 1) ((bytesV (xorB a b)).take (k + 1)) := by rw [Ht.out]; exact hown2
        clear hown2 hgr hat2 hbel hown g1 g2
        go_wp2
        go_roundw
        case rel => exact ⟨k + 1, by omega, by go_num, hown3, hb2⟩
        case measure => simp [intOf]; omega
    · have hk2 : k = a.size := by omega
      have hxs := xorB_size h
      have hb3 : ¬ k < b.size := by omega
      have hown3 : wr.ownsRow w.heap.size 5 1 u5 (xorB a b).size (bytesV (xorB a b)) := by
        rw [hk2, List.take_of_length_le (by rw [bytesV_length]; omega)] at hown
        rw [hxs]; exact hown
      obtain ⟨g, cap, rfl, hc⟩ := owns_bytes hown3 (by omega)
      have hcv := run_convert_bytes_arg (P := Try.prog) wr 53 5 Try.underlying53 Try.underlying5 g 0 (xorB a b).size cap (numsB (xorB a b)) (numsB_length _) hc 9 Try.underlying9
      rw [strOfNums_numsB] at hcv
      clear hc hown hown3 hxs
      go_wp2
      go_ret
      exact ⟨rfl, hbel⟩

end Go.Proofs.Ytnjaofkieajnlaa
