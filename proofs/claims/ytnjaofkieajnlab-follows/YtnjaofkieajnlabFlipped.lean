/- A piece with one bit turned is another piece of the same size. -/
import Derived.Test.YtnjaofkieajnlabWord
import Derived.Laws.IdiomStrings
namespace Go.Proofs.Ytnjaofkieajnlab
open Go.RowKit

/-- The bytes of a text, laid into a row of the call's own. -/
theorem bytes_run (s : ByteArray) (w : World) : ∃ cap W1, (convert 9 55 (.string s)).run Try.prog w = .ok (.slice (some ⟨w.heap.size, 0, none⟩) s.size cap) W1 ∧
    (∀ j, j < s.size → W1.cell? ⟨w.heap.size, j, none⟩ = some (.int .u8 ((byteAt s j).toNat : Int))) ∧ (∀ j, j < s.size → W1.frozen? ⟨w.heap.size, j, none⟩ = false) ∧ Below w.heap.size w W1 ∧ w.heap.size < W1.heap.size := by
  have h := run_bytes_of_string (P := Try.prog) w 9 55 5 s Try.underlying9 Try.underlying55 Try.underlying5
  refine ⟨_, _, h, fun j hj => ?_, fun j hj => ?_, (Below.refl _ _).drew.alloc (Nat.le_refl _) _, by simp⟩
  · have hd : w.drew.heap.size = w.heap.size := rfl
    rw [← hd, World.cell?_alloc_mark]
    unfold bytesRow
    rw [Array.getElem?_append_left (by simpa using hj)]
    have hj2 : j < s.data.size := hj
    rw [Array.getElem?_map, Array.getElem?_eq_getElem hj2]
    have := byteAt_get s j hj
    rw [← this]
    rfl
  · have hd : w.drew.heap.size = w.heap.size := rfl
    rw [← hd, World.frozen?_alloc_mark]
    have : j < (bytesRow s (grownCap w s.size 0 5)).size := by
      unfold bytesRow
      rw [Array.size_append, Array.size_map]
      have : s.data.size = s.size := rfl
      omega
    simp
    omega

/-- A text with another byte at m. -/
def setByte (p : ByteArray) (m : Nat) (x : UInt8) : ByteArray := ⟨(p.data.toList.set m x).toArray⟩

theorem setByte_size (p : ByteArray) (m : Nat) (x : UInt8) : (setByte p m x).size = p.size := by
  show (p.data.toList.set m x).toArray.size = p.size
  rw [List.size_toArray, List.length_set]; rfl

theorem byteAt_setByte (p : ByteArray) (m : Nat) (x : UInt8) (hm : m < p.size) (i : Nat) : byteAt (setByte p m x) i = if i = m then x else byteAt p i := by
  unfold byteAt setByte
  have hm2 : m < p.data.toList.length := by simpa using hm
  simp only [List.getD_eq_getElem?_getD]
  by_cases e : i = m
  · subst e
    rw [if_pos rfl]
    show ((p.data.toList.set i x).toArray.toList)[i]?.getD 0 = x
    rw [List.toList_toArray, List.getElem?_set_self hm2]; rfl
  · rw [if_neg e]
    show ((p.data.toList.set m x).toArray.toList)[i]?.getD 0 = _
    rw [List.toList_toArray, List.getElem?_set_ne (by omega)]

theorem setByte_ne (p : ByteArray) (m : Nat) (x : UInt8) (hm : m < p.size) (hx : x ≠ byteAt p m) : setByte p m x ≠ p := by
  intro e
  have h := byteAt_setByte p m x hm m
  rw [e, if_pos rfl] at h
  exact hx h.symm

theorem pow_u8 (b : Nat) (hb : b < 8) : (2 : Int) ^ b % 256 = (((1 : UInt8) <<< UInt8.ofNat b).toNat : Int) ∧ (1 : UInt8) <<< UInt8.ofNat b ≠ 0 := by
  have h : b = 0 ∨ b = 1 ∨ b = 2 ∨ b = 3 ∨ b = 4 ∨ b = 5 ∨ b = 6 ∨ b = 7 := by omega
  rcases h with rfl | rfl | rfl | rfl | rfl | rfl | rfl | rfl <;> exact ⟨by decide, by decide⟩

theorem xor_other (a y : UInt8) (hy : y ≠ 0) : a ^^^ y ≠ a := by
  intro e
  apply hy
  have h : a ^^^ (a ^^^ y) = a ^^^ a := by rw [e]
  rwa [← UInt8.xor_assoc, UInt8.xor_self, UInt8.zero_xor] at h

set_option maxRecDepth 100000 in
set_option maxHeartbeats 1000000 in
theorem flipped_any (p : ByteArray) (c : Int) (w : World) (h1 : -9223372036854775808 ≤ c) (h2 : c ≤ 9223372036854775807) (h0 : 0 < p.size) (hs : p.size ≤ 1000) :
    Calls Try.prog 14 #[.string p, .int .i64 c] w fun e w' => ∃ q, e = .returned (.string q) ∧ q.size = p.size ∧ q ≠ p ∧ Below w.heap.size w w' := by
  obtain ⟨cap, W1, hrun, hcell, hfrz, hbel, hlt⟩ := bytes_run p w
  have HC := hide hcell
  have HF := hide hfrz
  clear hcell hfrz
  go_enter Try.func14, Try.ntmps14
  go_wp2_with fail
  refine (pick_any c _ _ h1 h2 (by omega)).mono ?_
  rintro e w1 ⟨rfl, rfl⟩
  have hm0 : 0 ≤ rawOf c % (8 * (p.size : Int)) := Int.emod_nonneg _ (by omega)
  have hm1 : rawOf c % (8 * (p.size : Int)) < 8 * (p.size : Int) := Int.emod_lt_of_pos _ (by omega)
  obtain ⟨k, hk⟩ := Int.eq_ofNat_of_zero_le hm0
  rw [hk] at hm1
  rw [hk]
  clear hm0 hk hrun
  have hkm : k / 8 < p.size := by omega
  have hc := HC.out (k / 8) hkm
  have hf := HF.out (k / 8) hkm
  have i1 : (0 : Int) ≤ (k : Int) / 8 := by omega
  have i2 : (k : Int) / 8 < (p.size : Int) := by omega
  obtain ⟨hy, hy0⟩ := pow_u8 (k % 8) (by omega)
  generalize (1 : UInt8) <<< UInt8.ofNat (k % 8) = y at *
  have hx := u8_xor_nat (byteAt p (k / 8)).toNat y.toNat (byteAt p (k / 8)).toNat_lt y.toNat_lt
  have hne := setByte_ne p (k / 8) (byteAt p (k / 8) ^^^ y) hkm (xor_other _ _ hy0)
  have Hne := hide hne
  clear hne
  have hcells : ∀ j, j < p.size → ((w1.setCell ⟨w.heap.size, k / 8, none⟩ (.int .u8 (((byteAt p (k / 8)).toNat ^^^ y.toNat : Nat) : Int))).drew).cell? ⟨w.heap.size, 0 + j, none⟩ = some (.int .u8 ((numsB (setByte p (k / 8) (byteAt p (k / 8) ^^^ y))).getD j 0)) := fun j hj => by
    rw [numsB_getD, byteAt_setByte p (k / 8) _ hkm, Nat.zero_add]
    show (w1.setCell _ _).cell? _ = _
    by_cases e : j = k / 8
    · rw [if_pos e, e, toNat_xor]
      exact World.cell?_setCell_same w1 _ _ hc
    · rw [if_neg e, World.cell?_setCell_other w1 _ _ _ (fun h => e (congrArg Addr.off h).symm)]
      exact HC.out j hj
  have hcv := run_convert_bytes_arg (P := Try.prog) _ 55 5 Try.underlying55 Try.underlying5 w.heap.size 0 p.size cap (numsB (setByte p (k / 8) (byteAt p (k / 8) ^^^ y))) (by rw [numsB_length, setByte_size]) hcells 9 Try.underlying9
  rw [strOfNums_numsB] at hcv
  clear hcells
  have hb2 := (hbel.setCell (p := ⟨w.heap.size, k / 8, none⟩) (Nat.le_refl _) (.int .u8 (((byteAt p (k / 8)).toNat ^^^ y.toNat : Nat) : Int))).drew
  clear hbel
  go_wp2_with fail
  go_region
  all_goals
    clear hc hf hx hy
    go_wp2
    go_ret
    exact ⟨_, rfl, setByte_size _ _ _, Hne.out, hb2⟩

end Go.Proofs.Ytnjaofkieajnlab
