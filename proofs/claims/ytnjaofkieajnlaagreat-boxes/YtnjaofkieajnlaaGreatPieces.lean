/- The pieces that the statements make of a text's bytes: as many as asked, each of the size asked. -/
import Derived.Test.YtnjaofkieajnlaaGreatKeep
namespace Go.Proofs.YtnjaofkieajnlaaGreat
open Go.RowKit

theorem u8_of (x : Int) (h : 0 ≤ x ∧ x ≤ 255) : ∃ y : UInt8, x = (y.toNat : Int) := ⟨UInt8.ofNat x.toNat, by
  rw [UInt8.toNat_ofNat']
  omega⟩

theorem bytesV_push (b : ByteArray) (y : UInt8) : bytesV (b.push y) = bytesV b ++ [.int .u8 (y.toNat : Int)] := by
  unfold bytesV numsB
  cases b
  simp [ByteArray.push]

theorem u8_wrap_bd (x : Int) : 0 ≤ IntKind.u8.wrap x ∧ IntKind.u8.wrap x ≤ 255 := by
  rw [IntKind.wrap_u8']
  omega

end Go.Proofs.YtnjaofkieajnlaaGreat
