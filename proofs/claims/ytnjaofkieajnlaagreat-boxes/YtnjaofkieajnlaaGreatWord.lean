/- The word that the statements make: data, and the spare pieces that the program gives for them. -/
import Derived.Test.YtnjaofkieajnlaaGreatPieces
namespace Go.Proofs.YtnjaofkieajnlaaGreat
open Go.RowKit

theorem sparesOf_get (K M O S z i : Nat) (l : List ByteArray) (hi : i < M) : (sparesOf K M O S l z).getD i ByteArray.empty = sumB (knownTo l (rowOf K M O S) z i) (rowOf K M O S i) z := by
  unfold sparesOf
  rw [List.getD_eq_getElem?_getD, List.getElem?_drop, ← List.getD_eq_getElem?_getD, knownTo_get l _ z (i + 1) M _ (by omega) (by omega), knownTo_last]

end Go.Proofs.YtnjaofkieajnlaaGreat
