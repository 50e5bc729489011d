/- Texts of the proof, part 8. -/
import Derived.Laws.IdiomStrings
import Derived.Test.YtnjaofkieajnlabPostedG3
import Derived.Test.YtnjaofkieajnlabPostedG5
import Derived.Test.YtnjaofkieajnlabPostedG6

/- The pieces that the statements make of a text's bytes: as many as asked, each of the size asked. -/
namespace Go.Proofs.Ytnjaofkieajnlab
open Go.RowKit

theorem u8_of (x : Int) (h : 0 ≤ x ∧ x ≤ 255) : ∃ y : UInt8, x = (y.toNat : Int) := ⟨UInt8.ofNat x.toNat, by
  rw [UInt8.toNat_ofNat']
  omega⟩

theorem bytesV_push (b : ByteArray) (y : UInt8) : bytesV (b.push y) = bytesV b ++ [.int .u8 (y.toNat : Int)] := by
  unfold bytesV numsB
  cases b
  simp [ByteArray.push]

theorem u8_wrap_bd (x : Int) : 0 ≤ IntKind.u8.wrap x ∧ IntKind.u8.wrap x ≤ 255 := by
  rw [IntKind.wrap_u8']
  omega

set_option maxRecDepth 100000 in
set_option maxHeartbeats 4000000 in
theorem pieces_any (n z : Nat) (text : ByteArray) (w : World) (hn : n ≤ 1000) (hz : 1 ≤ z ∧ z ≤ 100) (ht : text.size ≤ 9223372036854775807) :
    Calls Try.prog 10 #[.int .i64 (n : Int), .int .i64 (z : Int), .string text] w fun e w' => ∃ v l, e = .returned v ∧ l.length = n ∧ (∀ x ∈ l, x.size = z) ∧ w'.ownsRow w.heap.size 9 1 v n (textV l) ∧ Below w.heap.size w w' := by
  obtain ⟨i0, hi, hz0, hz1, hz2⟩ := info_parts Try.infoByte
  obtain ⟨j0, gi, gz0, gz1, gz2⟩ := info_parts Try.infoText
  go_enter Try.func10, Try.ntmps10
  go_wp2_with fail
  go_loopw [7, 8, 13] (fun v at_ t wr => ∃ (i a : Nat) (l : List ByteArray), i ≤ n ∧ t = .int .i64 i ∧ at_ = .int .i64 a ∧ a ≤ 100 * i ∧ l.length = i ∧ (∀ x ∈ l, x.size = z) ∧ wr.ownsRow w.heap.size 9 1 v i (textV l) ∧ Below w.heap.size w wr) (fun _ _ t _ => n - (intOf t).toNat)
  case atStart => exact ⟨0, 0, [], Nat.zero_le _, rfl, rfl, by omega, rfl, fun x hx => by simp at hx, World.ownsRow_nil _ _ _ _, Below.refl _ _⟩
  case round =>
    obtain ⟨i, a, l, hin, rfl, rfl, ha, hli, hls, hown, hbel⟩ := hrel
    have Hls := hide hls
    have Hli := hide hli
    clear hls hli
    by_cases hlt : i < n
    · obtain ⟨W2, rfl⟩ : ∃ W, W = wr := ⟨_, rfl⟩
      go_wp2_with fail
      go_loopw [8, 10, 17] (fun at_ v t wr => ∃ (k a : Nat) (b : ByteArray), k ≤ z ∧ t = .int .i64 k ∧ at_ = .int .i64 a ∧ a ≤ 100 * i + k ∧ b.size = k ∧ wr.ownsRow W2.heap.size 5 1 v k (bytesV b) ∧ Below W2.heap.size W2 wr) (fun _ _ t _ => z - (intOf t).toNat)
      case atStart => exact ⟨0, a, ByteArray.empty, Nat.zero_le _, rfl, rfl, by omega, rfl, World.ownsRow_nil _ _ _ _, Below.refl _ _⟩
      case round =>
        obtain ⟨k, a2, b, hkz, rfl, rfl, ha2, hbs, hownb, hbel2⟩ := hrel
        have Hbs := hide hbs
        clear hbs
        have hsz := hbel2.size
        by_cases hkl : k < z
        · have hst : ∀ (y : UInt8) (w3 : World) (gg cap : Nat), w3.ownsRow W2.heap.size 5 1 (.slice (some ⟨gg, 0, none⟩) (k + 1) cap) (k + 1) (bytesV b ++ [.int .u8 (y.toNat : Int)]) → w3.ownsRow W2.heap.size 5 1 (.slice (some ⟨gg, 0, none⟩) (k + 1) cap) (k + 1) (bytesV (b.push y)) := fun y w3 gg cap h => by rw [bytesV_push]; exact h
          have hps : ∀ y : UInt8, (b.push y).size = k + 1 := fun y => by rw [ByteArray.size_push, Hbs.out]
          have Hst := hide hst
          have Hps := hide hps
          clear hst hps
          have hnl : 0 ≤ (a2 : Int) * 7 * (i : Int) ∧ (a2 : Int) * 7 * (i : Int) ≤ 1000000000000 := by
            have h1 : a2 * 7 * i ≤ 1000000 * 1000 := Nat.mul_le_mul (by omega) (by omega)
            have h2 : ((a2 * 7 * i : Nat) : Int) = (a2 : Int) * 7 * (i : Int) := by simp
            omega
          by_cases hts : 0 < text.size
          · have hm1 : (0 : Int) ≤ (a2 : Int) % (text.size : Int) := Int.emod_nonneg _ (by omega)
            have hm2 : (a2 : Int) % (text.size : Int) < (text.size : Int) := Int.emod_lt_of_pos _ (by omega)
            have hidx : a2 % text.size < text.size := Nat.mod_lt _ hts
            obtain ⟨y, hy⟩ := u8_of (((a2 : Int) * 7 * (i : Int) + ((text[a2 % text.size]'hidx).toNat : Int)) % 256) (by omega)
            go_wp2_with (at_builtin; refine wpList_append_lies _ rfl (.tmp 35) (.tmp 37) 55 rfl W2.heap.size 5 i0 (.int .u8 0) 1 1 Try.underlying55 hi hz0 hz1 hz2 rfl (by decide) _ _ _ rfl (hownb.alloc _) ⟨wr.heap.size, 0, none⟩ 1 1 [.int .u8 (y.toNat : Int)] rfl rfl (one_news _ _ _) (one_oneCell rfl) (by decide) (by unfold maxLen; omega) (by omega) (by simp; omega) (wr.heap.size + 1) (by simp) ?_)
            intro gg cap w3 hown3 hgr hat3 hlt3
            have hb3 : Below W2.heap.size W2 w3 := (hbel2.alloc hsz _).grown hgr (by simp; omega) (fun q hq => (hownb.lt q hq).1)
            have hown4 := Hst.out y w3 gg cap hown3
            clear hown3 hgr hat3 hbel2 hownb hy
            go_wp2
            go_roundw
            case rel => exact ⟨k + 1, a2 + 1, b.push y, by omega, by go_num, by go_num, by omega, Hps.out y, hown4, hb3⟩
            case measure => simp [intOf]; omega
          · obtain ⟨y, hy⟩ := u8_of ((a2 : Int) * 7 * (i : Int) % 256) (by omega)
            go_wp2_with (at_builtin; refine wpList_append_lies _ rfl (.tmp 35) (.tmp 37) 55 rfl W2.heap.size 5 i0 (.int .u8 0) 1 1 Try.underlying55 hi hz0 hz1 hz2 rfl (by decide) _ _ _ rfl (hownb.alloc _) ⟨wr.heap.size, 0, none⟩ 1 1 [.int .u8 (y.toNat : Int)] rfl rfl (one_news _ _ _) (one_oneCell rfl) (by decide) (by unfold maxLen; omega) (by omega) (by simp; omega) (wr.heap.size + 1) (by simp) ?_)
            intro gg cap w3 hown3 hgr hat3 hlt3
            have hb3 : Below W2.heap.size W2 w3 := (hbel2.alloc hsz _).grown hgr (by simp; omega) (fun q hq => (hownb.lt q hq).1)
            have hown4 := Hst.out y w3 gg cap hown3
            clear hown3 hgr hat3 hbel2 hownb hy
            go_wp2
            go_roundw
            case rel => exact ⟨k + 1, a2 + 1, b.push y, by omega, by go_num, by go_num, by omega, Hps.out y, hown4, hb3⟩
            case measure => simp [intOf]; omega
        · have hkz2 : k = z := by omega
          have hownb2 : wr.ownsRow W2.heap.size 5 1 u10 b.size (bytesV b) := by rw [Hbs.out]; exact hownb
          obtain ⟨g, cap, rfl, hc⟩ := owns_bytes hownb2 (by rw [Hbs.out]; omega)
          have hcv := run_convert_bytes_arg (P := Try.prog) wr 55 5 Try.underlying55 Try.underlying5 g 0 b.size cap (numsB b) (numsB_length _) hc 9 Try.underlying9
          rw [strOfNums_numsB] at hcv
          have hown2 := owns_below hown hbel2
          have hb2 := hbel.trans (hbel2.mono hbel.size)
          have hwz : w.heap.size ≤ wr.heap.size := hb2.size
          clear hc hownb hownb2 hown
          go_wp2_with (at_builtin; refine wpList_append_lies _ rfl (.tmp 42) (.tmp 45) 27 rfl w.heap.size 9 j0 (.string ByteArray.empty) 1 16 Try.underlying27 gi gz0 gz1 gz2 rfl (by decide) _ _ _ rfl (hown2.alloc _) ⟨wr.heap.size, 0, none⟩ 1 1 [.string b] rfl rfl (one_news _ _ _) (one_oneCell rfl) (by decide) (by unfold maxLen; omega) (by omega) (by simp; omega) (wr.heap.size + 1) (by simp) ?_)
          intro gg cap3 w3 hown3 hgr hat3 hlt3
          have hb3 : Below w.heap.size w w3 := (hb2.alloc hwz _).grown hgr (by simp; omega) (fun q hq => (hown2.lt q hq).1)
          clear hgr hat3 hb2 hown2 hcv
          go_wp2
          go_roundw
          case rel =>
            refine ⟨i + 1, a2, l ++ [b], by omega, by go_num, rfl, by omega, by rw [List.length_append, Hli.out]; rfl, fun x hx => ?_, by rw [textV_append]; exact hown3, hb3⟩
            rcases List.mem_append.1 hx with h | h
            · exact Hls.out x h
            · simp at h; rw [h, Hbs.out]; exact hkz2
          case measure => simp [intOf]; omega
    · go_wp2
      go_ret
      exact ⟨_, l, rfl, by rw [Hli.out]; omega, Hls.out, by have : i = n := by omega
                                                            subst this; exact hown, hbel⟩

end Go.Proofs.Ytnjaofkieajnlab

/- The word that the statements make: data, and the spare pieces that the program gives for them. -/
namespace Go.Proofs.Ytnjaofkieajnlab
open Go.RowKit

theorem sparesOf_get (K M O S z i : Nat) (l : List ByteArray) (hi : i < M) : (sparesOf K M O S l z).getD i ByteArray.empty = sumB (knownTo l (rowOf K M O S) z i) (rowOf K M O S i) z := by
  unfold sparesOf
  rw [List.getD_eq_getElem?_getD, List.getElem?_drop, ← List.getD_eq_getElem?_getD, knownTo_get l _ z (i + 1) M _ (by omega) (by omega), knownTo_last]

set_option maxRecDepth 100000 in
set_option maxHeartbeats 4000000 in
theorem word_ok (K M O S z : Nat) (v : Value) (l : List ByteArray) (w : World) (hs : SpecOk K M O S z) (hl : l.length = K) (hls : ∀ x ∈ l, x.size = z) (ht : TextsAt w v l) :
    Calls Try.prog 9 #[specV K M O S, v] w fun e w' => ∃ v', e = .returned (.tuple #[v', .bool true]) ∧ w'.ownsRow w.heap.size 9 1 v' (K + M) (textV (knownTo l (rowOf K M O S) z M)) ∧ Below w.heap.size w w' := by
  obtain ⟨hK, hM, hO, hS, hz⟩ := hs
  have hget : ∀ k, k < l.length → (l.getD k ByteArray.empty).size = z := fun k hk => hls _ (by rw [List.getD_eq_getElem?_getD, List.getElem?_eq_getElem hk]; exact List.getElem_mem hk)
  have h0s := hget 0 (by omega)
  have hsh : Shaped l K := ⟨hl, fun k hk => by rw [hget k hk, h0s]; omega⟩
  have HT := hide ht
  have Hsh := hide hsh
  have Hls := hide hls
  obtain ⟨ao, cap, rfl, hcap, hc⟩ := ht
  obtain ⟨q, o, rfl, hq, hc0⟩ := hc 0 (by omega)
  have HC := hide (texts_cells hc rfl)
  subst hl
  obtain ⟨i0, hi, hz0, hz1, hz2⟩ := info_parts Try.infoText
  clear hsh hls hget hc
  go_enter Try.func9, Try.ntmps9
  go_wp2_with fail
  refine (spare_ok l.length M O S _ l _ hK hM hO hS Hsh.out (HT.out.on ((Below.refl _ _).alloc (Nat.le_refl _) _))).mono ?_
  rintro e w1 ⟨v', rfl, hv, hb⟩
  rw [h0s] at hv
  have hs1 := block_on (heap_alloc_new w _) hb
  have hb1 : Below w.heap.size w w1 := ((Below.refl _ _).alloc (Nat.le_refl _) _).trans (hb.mono (by simp))
  obtain ⟨c0, c1, c2, c3⟩ := spec_cellsI hs1
  obtain ⟨gv, cv, rfl, _, hgv⟩ := hv.form (by omega)
  have hnews : ∀ j u, (textV l)[j]? = some u → w1.cell? ((⟨q, o, none⟩ : Addr).add j) = some u := texts_news (fun k hk => by rw [hb1.cell (p := ⟨q, o + k, none⟩) hq]; exact HC.out k hk)
  have HN := hide hnews
  have hnil := World.ownsRow_nil w1 w1.heap.size 9 1
  clear hb hnews
  go_wp2_with (at_builtin; refine wpList_append_lies _ rfl (.tmp 26) (.tmp 27) 27 rfl w1.heap.size 9 i0 (.string ByteArray.empty) 1 16 Try.underlying27 hi hz0 hz1 hz2 rfl (by decide) _ _ _ rfl hnil ⟨q, o, none⟩ l.length cap (textV l) rfl (by rw [textV_length]; omega) HN.out (textV_one l) (by omega) (by unfold maxLen; omega) (by omega) (Nat.le_refl _) w1.heap.size rfl ?_)
  intro g9 cap9 w2 hown9 hgr9 hat9 hlt9
  have hb2 : Below w1.heap.size w1 w2 := (Below.refl _ _).grown hgr9 (Nat.le_refl _) (fun k e => by simp [Value.ownBlock] at e)
  have hst0 : w2.ownsRow w1.heap.size 9 1 (.slice (some ⟨g9, 0, none⟩) l.length cap9) (l.length + 0) (textV (knownTo l (rowOf l.length M O S) z 0)) := hown9
  clear hgr9 hat9 c0 c1 c2 c3 hown9 hnil
  go_wp2_with fail
  go_loopw [8, 31] (fun v8 t wr => ∃ i : Nat, i ≤ M ∧ t = .int .i64 i ∧ wr.ownsRow w1.heap.size 9 1 v8 (l.length + i) (textV (knownTo l (rowOf l.length M O S) z i)) ∧ Below w1.heap.size w1 wr) (fun _ t _ => M - (intOf t).toNat)
  case atStart => exact ⟨0, Nat.zero_le _, rfl, hst0, hb2⟩
  case round =>
    clear hst0 hb2
    obtain ⟨i, hiM, rfl, hown, hbel⟩ := hrel
    have hb3 := hb1.trans (hbel.mono hb1.size)
    by_cases hlt : i < M
    · obtain ⟨ao2, cp2, he2, hle2, hc3⟩ := (owns_texts hv (by rw [sparesOf_length])).on hbel
      obtain ⟨q2, o2, rfl, hq2, hc2⟩ := hc3 i (by rw [sparesOf_length]; exact hlt)
      simp at he2
      obtain ⟨⟨rfl, rfl⟩, hM3, rfl⟩ := he2
      clear hM3 hle2 hc3
      rw [sparesOf_get l.length M O S z i l hlt, Nat.zero_add] at hc2
      have hkl := knownTo_length l (rowOf l.length M O S) z i
      have hks : knownTo l (rowOf l.length M O S) z (i + 1) = knownTo l (rowOf l.length M O S) z i ++ [sumB (knownTo l (rowOf l.length M O S) z i) (rowOf l.length M O S i) z] := rfl
      have hps := sumB_size (knownTo_size (rows := rowOf l.length M O S) Hls.out i) (rowOf l.length M O S i)
      have Hks := hide hks
      clear hks
      generalize sumB (knownTo l (rowOf l.length M O S) z i) (rowOf l.length M O S i) z = p at *
      generalize knownTo l (rowOf l.length M O S) z i = kn at *
      have hd0 := (hb3.cell (p := ⟨q, o + 0, none⟩) hq).trans hc0
      simp only [Nat.add_zero] at hd0
      have hsz := hbel.size
      generalize l.getD 0 ByteArray.empty = p0 at *
      have hbn : ((p.size : Int) != (p0.size : Int)) = false := by simp; omega
      have Hps := hide hps
      have H0 := hide h0s
      clear hps h0s hc0
      go_wp2_with (at_builtin; refine wpList_append_lies _ rfl (.tmp 42) (.tmp 44) 27 rfl w1.heap.size 9 i0 (.string ByteArray.empty) 1 16 Try.underlying27 hi hz0 hz1 hz2 rfl (by decide) _ _ _ rfl (hown.alloc _) ⟨wr.heap.size, 0, none⟩ 1 1 [.string p] rfl rfl (one_news _ _ _) (one_oneCell rfl) (by decide) (by unfold maxLen; omega) (by omega) (by simp; omega) (wr.heap.size + 1) (by simp) ?_)
      intro gg cap3 w3 hown3 hgr hat3 hlt3
      have hb4 : Below w1.heap.size w1 w3 := (hbel.alloc hsz _).grown hgr (by simp; omega) (fun q hq => (hown.lt q hq).1)
      clear hgr hat3 hbel hown hc2 hd0
      go_wp2
      go_roundw
      case rel => exact ⟨i + 1, by omega, by go_num, by rw [Hks.out, textV_append]; exact hown3, hb4⟩
      case measure => simp [intOf]; omega
    · have hiM2 : i = M := by omega
      subst hiM2
      have hown2 := owns_base (base' := w.heap.size) hown (fun k e => by have := (hown.lt k e).1; have := hb1.size; omega)
      clear hown
      go_wp2
      go_ret2
      exact ⟨_, rfl, hown2, hb3⟩

end Go.Proofs.Ytnjaofkieajnlab

/- A piece with one bit turned is another piece of the same size. -/
namespace Go.Proofs.Ytnjaofkieajnlab
open Go.RowKit

/-- The bytes of a text, laid into a row of the call's own. -/
theorem bytes_run (s : ByteArray) (w : World) : ∃ cap W1, (convert 9 55 (.string s)).run Try.prog w = .ok (.slice (some ⟨w.heap.size, 0, none⟩) s.size cap) W1 ∧
    (∀ j, j < s.size → W1.cell? ⟨w.heap.size, j, none⟩ = some (.int .u8 ((byteAt s j).toNat : Int))) ∧ (∀ j, j < s.size → W1.frozen? ⟨w.heap.size, j, none⟩ = false) ∧ Below w.heap.size w W1 ∧ w.heap.size < W1.heap.size := by
  have h := run_bytes_of_string (P := Try.prog) w 9 55 5 s Try.underlying9 Try.underlying55 Try.underlying5
  refine ⟨_, _, h, fun j hj => ?_, fun j hj => ?_, (Below.refl _ _).drew.alloc (Nat.le_refl _) _, by simp⟩
  · have hd : w.drew.heap.size = w.heap.size := rfl
    rw [← hd, World.cell?_alloc_mark]
    unfold bytesRow
    rw [Array.getElem?_append_left (by simpa using hj)]
    have hj2 : j < s.data.size := hj
    rw [Array.getElem?_map, Array.getElem?_eq_getElem hj2]
    have := byteAt_get s j hj
    rw [← this]
    rfl
  · have hd : w.drew.heap.size = w.heap.size := rfl
    rw [← hd, World.frozen?_alloc_mark]
    have : j < (bytesRow s (grownCap w s.size 0 5)).size := by
      unfold bytesRow
      rw [Array.size_append, Array.size_map]
      have : s.data.size = s.size := rfl
      omega
    simp
    omega

/-- A text with another byte at m. -/
def setByte (p : ByteArray) (m : Nat) (x : UInt8) : ByteArray := ⟨(p.data.toList.set m x).toArray⟩

theorem setByte_size (p : ByteArray) (m : Nat) (x : UInt8) : (setByte p m x).size = p.size := by
  show (p.data.toList.set m x).toArray.size = p.size
  rw [List.size_toArray, List.length_set]; rfl

theorem byteAt_setByte (p : ByteArray) (m : Nat) (x : UInt8) (hm : m < p.size) (i : Nat) : byteAt (setByte p m x) i = if i = m then x else byteAt p i := by
  unfold byteAt setByte
  have hm2 : m < p.data.toList.length := by simpa using hm
  simp only [List.getD_eq_getElem?_getD]
  by_cases e : i = m
  · subst e
    rw [if_pos rfl]
    show ((p.data.toList.set i x).toArray.toList)[i]?.getD 0 = x
    rw [List.toList_toArray, List.getElem?_set_self hm2]; rfl
  · rw [if_neg e]
    show ((p.data.toList.set m x).toArray.toList)[i]?.getD 0 = _
    rw [List.toList_toArray, List.getElem?_set_ne (by omega)]

theorem setByte_ne (p : ByteArray) (m : Nat) (x : UInt8) (hm : m < p.size) (hx : x ≠ byteAt p m) : setByte p m x ≠ p := by
  intro e
  have h := byteAt_setByte p m x hm m
  rw [e, if_pos rfl] at h
  exact hx h.symm

theorem pow_u8 (b : Nat) (hb : b < 8) : (2 : Int) ^ b % 256 = (((1 : UInt8) <<< UInt8.ofNat b).toNat : Int) ∧ (1 : UInt8) <<< UInt8.ofNat b ≠ 0 := by
  have h : b = 0 ∨ b = 1 ∨ b = 2 ∨ b = 3 ∨ b = 4 ∨ b = 5 ∨ b = 6 ∨ b = 7 := by omega
  rcases h with rfl | rfl | rfl | rfl | rfl | rfl | rfl | rfl <;> exact ⟨by decide, by decide⟩

theorem xor_other (a y : UInt8) (hy : y ≠ 0) : a ^^^ y ≠ a := by
  intro e
  apply hy
  have h : a ^^^ (a ^^^ y) = a ^^^ a := by rw [e]
  rwa [← UInt8.xor_assoc, UInt8.xor_self, UInt8.zero_xor] at h

set_option maxRecDepth 100000 in
set_option maxHeartbeats 1000000 in
theorem flipped_any (p : ByteArray) (c : Int) (w : World) (h1 : -9223372036854775808 ≤ c) (h2 : c ≤ 9223372036854775807) (h0 : 0 < p.size) (hs : p.size ≤ 1000) :
    Calls Try.prog 14 #[.string p, .int .i64 c] w fun e w' => ∃ q, e = .returned (.string q) ∧ q.size = p.size ∧ q ≠ p ∧ Below w.heap.size w w' := by
  obtain ⟨cap, W1, hrun, hcell, hfrz, hbel, hlt⟩ := bytes_run p w
  have HC := hide hcell
  have HF := hide hfrz
  clear hcell hfrz
  go_enter Try.func14, Try.ntmps14
  go_wp2_with fail
  refine (pick_any c _ _ h1 h2 (by omega)).mono ?_
  rintro e w1 ⟨rfl, rfl⟩
  have hm0 : 0 ≤ rawOf c % (8 * (p.size : Int)) := Int.emod_nonneg _ (by omega)
  have hm1 : rawOf c % (8 * (p.size : Int)) < 8 * (p.size : Int) := Int.emod_lt_of_pos _ (by omega)
  obtain ⟨k, hk⟩ := Int.eq_ofNat_of_zero_le hm0
  rw [hk] at hm1
  rw [hk]
  clear hm0 hk hrun
  have hkm : k / 8 < p.size := by omega
  have hc := HC.out (k / 8) hkm
  have hf := HF.out (k / 8) hkm
  have i1 : (0 : Int) ≤ (k : Int) / 8 := by omega
  have i2 : (k : Int) / 8 < (p.size : Int) := by omega
  obtain ⟨hy, hy0⟩ := pow_u8 (k % 8) (by omega)
  generalize (1 : UInt8) <<< UInt8.ofNat (k % 8) = y at *
  have hx := u8_xor_nat (byteAt p (k / 8)).toNat y.toNat (byteAt p (k / 8)).toNat_lt y.toNat_lt
  have hne := setByte_ne p (k / 8) (byteAt p (k / 8) ^^^ y) hkm (xor_other _ _ hy0)
  have Hne := hide hne
  clear hne
  have hcells : ∀ j, j < p.size → ((w1.setCell ⟨w.heap.size, k / 8, none⟩ (.int .u8 (((byteAt p (k / 8)).toNat ^^^ y.toNat : Nat) : Int))).drew).cell? ⟨w.heap.size, 0 + j, none⟩ = some (.int .u8 ((numsB (setByte p (k / 8) (byteAt p (k / 8) ^^^ y))).getD j 0)) := fun j hj => by
    rw [numsB_getD, byteAt_setByte p (k / 8) _ hkm, Nat.zero_add]
    show (w1.setCell _ _).cell? _ = _
    by_cases e : j = k / 8
    · rw [if_pos e, e, toNat_xor]
      exact World.cell?_setCell_same w1 _ _ hc
    · rw [if_neg e, World.cell?_setCell_other w1 _ _ _ (fun h => e (congrArg Addr.off h).symm)]
      exact HC.out j hj
  have hcv := run_convert_bytes_arg (P := Try.prog) _ 55 5 Try.underlying55 Try.underlying5 w.heap.size 0 p.size cap (numsB (setByte p (k / 8) (byteAt p (k / 8) ^^^ y))) (by rw [numsB_length, setByte_size]) hcells 9 Try.underlying9
  rw [strOfNums_numsB] at hcv
  clear hcells
  have hb2 := (hbel.setCell (p := ⟨w.heap.size, k / 8, none⟩) (Nat.le_refl _) (.int .u8 (((byteAt p (k / 8)).toNat ^^^ y.toNat : Nat) : Int))).drew
  clear hbel
  go_wp2_with fail
  go_region
  all_goals
    clear hc hf hx hy
    go_wp2
    go_ret
    exact ⟨_, rfl, setByte_size _ _ _, Hne.out, hb2⟩

end Go.Proofs.Ytnjaofkieajnlab

/- The program's box in memory; how known sums are taken away from a piece. -/
namespace Go.Proofs.Ytnjaofkieajnlab
open Go.RowKit

/-- The cells of the program's box. -/
def boxCell (K n z : Nat) (of : Nat → Nat) (kn : Kn) (i : Nat) : Value :=
  if i = 0 then .int .i64 (K : Int) else if i = 1 then .int .i64 (n : Int) else if i = 2 then .int .i64 (z : Int) else if i < 43 then .int .i64 (of (i - 3) : Int) else if (i - 43) % 2 = 0 then .int .i64 ((kn ((i - 43) / 2)).1 : Int) else .string (kn ((i - 43) / 2)).2

/-- The program's box, as its block holds it. -/
def BoxAt (w : World) (p K n z : Nat) (of : Nat → Nat) (kn : Kn) : Prop := w.rowIs p 65 83 (boxCell K n z of kn)

namespace BoxAt
variable {w w' : World} {p K n z : Nat} {of : Nat → Nat} {kn : Kn}

theorem lt (h : BoxAt w p K n z of kn) : p < w.heap.size := World.rowIs.lt h

theorem block (h : BoxAt w p K n z of kn) (hb : w'.heap[p]? = w.heap[p]?) : BoxAt w' p K n z of kn := World.rowIs.of_block h hb

theorem on (h : BoxAt w p K n z of kn) {m : Nat} (hm : w.heap.size ≤ m) (hb : Below m w w') : BoxAt w' p K n z of kn := h.block (hb.block p (Nat.lt_of_lt_of_le h.lt hm))

theorem head (h : BoxAt w p K n z of kn) : w.cell? ⟨p, 0, none⟩ = some (.int .i64 (K : Int)) ∧ w.cell? ⟨p, 1, none⟩ = some (.int .i64 (n : Int)) ∧ w.cell? ⟨p, 2, none⟩ = some (.int .i64 (z : Int)) :=
  ⟨World.rowIs.cell h (i := 0) (by omega), World.rowIs.cell h (i := 1) (by omega), World.rowIs.cell h (i := 2) (by omega)⟩

theorem of_ (h : BoxAt w p K n z of kn) {i : Nat} (hi : i < 40) : w.cell? ⟨p, 3 + i, none⟩ = some (.int .i64 (of i : Int)) := by
  have := World.rowIs.cell h (i := 3 + i) (by omega)
  unfold boxCell at this
  rw [if_neg (by omega), if_neg (by omega), if_neg (by omega), if_pos (by omega), show 3 + i - 3 = i from by omega] at this
  exact this

theorem known (h : BoxAt w p K n z of kn) {j : Nat} (hj : j < 20) : w.cell? ⟨p, 43 + j * 2, none⟩ = some (.int .i64 ((kn j).1 : Int)) ∧ w.cell? ⟨p, 43 + j * 2 + 1, none⟩ = some (.string (kn j).2) := by
  have h1 := World.rowIs.cell h (i := 43 + j * 2) (by omega)
  have h2 := World.rowIs.cell h (i := 43 + j * 2 + 1) (by omega)
  unfold boxCell at h1 h2
  rw [if_neg (by omega), if_neg (by omega), if_neg (by omega), if_neg (by omega), if_pos (by omega), show (43 + j * 2 - 43) / 2 = j from by omega] at h1
  rw [if_neg (by omega), if_neg (by omega), if_neg (by omega), if_neg (by omega), if_neg (by omega), show (43 + j * 2 + 1 - 43) / 2 = j from by omega] at h2
  exact ⟨h1, h2⟩

theorem frozen (h : BoxAt w p K n z of kn) (i : Nat) : w.frozen? ⟨p, i, none⟩ = false := World.rowIs.frozen h i

/-- A sum is stored. -/
theorem store (h : BoxAt w p K n z of kn) {t : Nat} (f : Fct) : BoxAt ((w.setCell ⟨p, 43 + t * 2, none⟩ (.int .i64 (f.1 : Int))).setCell ⟨p, 43 + t * 2 + 1, none⟩ (.string f.2)) p K n z of (fun j => if j = t then f else kn j) := by
  refine ((World.rowIs.set h (43 + t * 2) (.int .i64 (f.1 : Int))).set (43 + t * 2 + 1) (.string f.2)).congr (fun i hi => ?_)
  unfold boxCell
  by_cases e : i = 43 + t * 2 + 1
  · subst e
    rw [if_pos rfl, if_neg (by omega), if_neg (by omega), if_neg (by omega), if_neg (by omega), if_neg (by omega), show (43 + t * 2 + 1 - 43) / 2 = t from by omega]; simp only [if_true]
  · rw [if_neg e]
    by_cases e2 : i = 43 + t * 2
    · subst e2
      rw [if_pos rfl, if_neg (by omega), if_neg (by omega), if_neg (by omega), if_neg (by omega), if_pos (by omega), show (43 + t * 2 - 43) / 2 = t from by omega]; simp only [if_true]
    · rw [if_neg e2]
      by_cases e3 : i < 43
      · by_cases h0 : i = 0
        · rw [if_pos h0, if_pos h0]
        · rw [if_neg h0, if_neg h0]
          by_cases h1 : i = 1
          · rw [if_pos h1, if_pos h1]
          · rw [if_neg h1, if_neg h1]
            by_cases h2 : i = 2
            · rw [if_pos h2, if_pos h2]
            · rw [if_neg h2, if_neg h2, if_pos e3, if_pos e3]
      · have hne : (i - 43) / 2 ≠ t := by omega
        simp only [if_neg hne]

end BoxAt

/-- Bytes in a row of the call's own. -/
structure BytesAt (w : World) (g z : Nat) (f : Nat → UInt8) : Prop where
  lt : g < w.heap.size
  cell : ∀ j, j < z → w.cell? ⟨g, j, none⟩ = some (.int .u8 ((f j).toNat : Int))
  frozen : ∀ j, j < z → w.frozen? ⟨g, j, none⟩ = false

theorem BytesAt.on {w w' : World} {g z m : Nat} {f : Nat → UInt8} (h : BytesAt w g z f) (hm : w.heap.size ≤ m) (hb : Below m w w') : BytesAt w' g z f :=
  ⟨Nat.lt_of_lt_of_le h.lt hb.size, fun j hj => by rw [hb.cell (p := ⟨g, j, none⟩) (Nat.lt_of_lt_of_le h.lt hm)]; exact h.cell j hj, fun j hj => by rw [hb.frozen (p := ⟨g, j, none⟩) (Nat.lt_of_lt_of_le h.lt hm)]; exact h.frozen j hj⟩

theorem BytesAt.congr {w : World} {g z : Nat} {f f' : Nat → UInt8} (h : BytesAt w g z f) (hf : ∀ j, j < z → f j = f' j) : BytesAt w g z f' :=
  ⟨h.lt, fun j hj => by rw [← hf j hj]; exact h.cell j hj, h.frozen⟩

theorem BytesAt.step {w : World} {g z : Nat} {t p : ByteArray} {k : Nat} (h : BytesAt w g z (halfByte t p k)) (hk : k < z) :
    BytesAt (w.setCell ⟨g, k, none⟩ (.int .u8 (((byteAt t k).toNat ^^^ (byteAt p k).toNat : Nat) : Int))) g z (halfByte t p (k + 1)) := by
  refine ⟨by have := h.lt; simp [World.setCell]; exact this, fun j hj => ?_, fun j hj => by rw [World.frozen?_setCell]; exact h.frozen j hj⟩
  by_cases e : j = k
  · subst e
    rw [World.cell?_setCell_same w _ _ (h.cell j hj), ← toNat_xor]
    simp [halfByte]
  · rw [World.cell?_setCell_other w _ _ _ (fun x => e (congrArg Addr.off x).symm), h.cell j hj]
    unfold halfByte
    by_cases l : j < k
    · rw [if_pos l, if_pos (show j < k + 1 from by omega)]
    · rw [if_neg l, if_neg (show ¬ j < k + 1 from by omega)]

end Go.Proofs.Ytnjaofkieajnlab

/- The program's 'without': what is left of a piece when the known sums are taken away. -/
namespace Go.Proofs.Ytnjaofkieajnlab
open Go.RowKit

theorem Try.infoSum : (Try.prog.info? 60).map (fun i => (i.zero, i.size, i.bytes)) = some (some (.agg #[.int .i64 0, .string ByteArray.empty]), 2, 24) := by kernel_rfl

theorem Try.sizeSum : (Try.prog.info? 60).map (·.size) = some 2 := by kernel_rfl

/-- Where 'without' stands ahead of the known sums below n: the result's block is the first new one. -/
structure WoAt (w wr : World) (p K m z : Nat) (of : Nat → Nat) (kn : Kn) (st : Fct) : Prop where
  box : BoxAt wr p K m z of kn
  res : wr.heap[w.heap.size]? = some (.cells #[.int .i64 0, .string ⟨#[]⟩] 60 (0, 0))
  bytes : BytesAt wr (w.heap.size + 1) z (byteAt st.2)
  below : Below w.heap.size w wr

theorem two_cells {w : World} {q : Nat} {a b : Value} {t : TypeId} (h : w.heap[q]? = some (.cells #[a, b] t (0, 0))) : w.cell? ⟨q, 0, none⟩ = some a ∧ w.cell? ⟨q, 1, none⟩ = some b :=
  ⟨by rw [cell_of_row _ _ _ _ _ _ h]; rfl, by rw [cell_of_row _ _ _ _ _ _ h]; rfl⟩

theorem two_frozen {w : World} {q : Nat} {cs : Array Value} {t : TypeId} (h : w.heap[q]? = some (.cells cs t (0, 0))) (i : Nat) : w.frozen? ⟨q, i, none⟩ = false := by
  simp [World.frozen?, h]

theorem WoAt.on {w wr w' : World} {p K m z : Nat} {of : Nat → Nat} {kn : Kn} {st : Fct} (h : WoAt w wr p K m z of kn st) (hb : Below wr.heap.size wr w') : WoAt w w' p K m z of kn st := by
  have hl := h.bytes.lt
  exact ⟨h.box.on (Nat.le_refl _) hb, by rw [hb.block _ (by omega)]; exact h.res, h.bytes.on (Nat.le_refl _) hb, h.below.trans (hb.mono (by omega))⟩

/-- .. and within a known sum: it lies in block q; the first k bytes are done. -/
structure WoIn (w wi : World) (p K m z : Nat) (of : Nat → Nat) (kn : Kn) (t : ByteArray) (f : Fct) (q k : Nat) : Prop where
  box : BoxAt wi p K m z of kn
  res : wi.heap[w.heap.size]? = some (.cells #[.int .i64 0, .string ⟨#[]⟩] 60 (0, 0))
  known : wi.heap[q]? = some (.cells #[.int .i64 (f.1 : Int), .string f.2] 60 (0, 0))
  bytes : BytesAt wi (w.heap.size + 1) z (halfByte t f.2 k)
  below : Below w.heap.size w wi

theorem WoIn.step {w wi : World} {p K m z : Nat} {of : Nat → Nat} {kn : Kn} {t : ByteArray} {f : Fct} {q k : Nat} (h : WoIn w wi p K m z of kn t f q k) (hp : p < w.heap.size) (hq : w.heap.size + 1 < q) (hk : k < z) :
    WoIn w (wi.setCell ⟨w.heap.size + 1, k, none⟩ (.int .u8 (((byteAt t k).toNat ^^^ (byteAt f.2 k).toNat : Nat) : Int))) p K m z of kn t f q (k + 1) := by
  refine ⟨h.box.block (heap_setCell_other _ _ _ _ (by show p ≠ w.heap.size + 1; omega)), ?_, ?_, h.bytes.step hk, h.below.setCell (by show w.heap.size ≤ w.heap.size + 1; omega) _⟩
  · rw [heap_setCell_other _ _ _ _ (by show w.heap.size ≠ w.heap.size + 1; omega)]; exact h.res
  · rw [heap_setCell_other _ _ _ _ (by show q ≠ w.heap.size + 1; omega)]; exact h.known

theorem WoIn.drew {w wi : World} {p K m z : Nat} {of : Nat → Nat} {kn : Kn} {t : ByteArray} {f : Fct} {q k : Nat} (h : WoIn w wi p K m z of kn t f q k) : WoIn w wi.drew p K m z of kn t f q k :=
  ⟨h.box, h.res, h.known, ⟨h.bytes.lt, h.bytes.cell, h.bytes.frozen⟩, h.below.drew⟩

set_option maxRecDepth 100000 in
set_option maxHeartbeats 4000000 in
theorem without_any (p K m z x : Nat) (of : Nat → Nat) (kn : Kn) (t : ByteArray) (w : World) (hK : K ≤ 20) (hkn : KnOk K z kn) (hx : x < 1048576) (ht : t.size = z) (hz : z ≤ 1000) (hbox : BoxAt w p K m z of kn) :
    Calls Try.prog 43 #[.pointer (some ⟨p, 0, none⟩), .int .i64 (x : Int), .string t] w fun e w' => e = .returned (.agg #[.int .i64 ((left kn x t).1 : Int), .string (left kn x t).2]) ∧ Below w.heap.size w w' := by
  obtain ⟨cap, W1, hrun, hcell, hfrz, hbel, hlt⟩ := bytes_run t (w.alloc (.cells #[.int .i64 0, .string ⟨#[]⟩] 60))
  rw [World.size_alloc] at hrun hcell hfrz hbel hlt
  rw [ht] at hrun hcell hfrz
  have hw0 : WoAt w W1 p K m z of kn (x, t) := by
    have hb0 : Below w.heap.size w (w.alloc (.cells #[.int .i64 0, .string ⟨#[]⟩] 60)) := (Below.refl _ _).alloc (Nat.le_refl _) _
    have hb1 : Below w.heap.size w W1 := hb0.trans (hbel.mono (by omega))
    exact ⟨hbox.on (Nat.le_refl _) hb1, by rw [hbel.block _ (by omega)]; exact heap_alloc_new w _, ⟨hlt, hcell, hfrz⟩, hb1⟩
  have hpw0 := hbox.lt
  clear hcell hfrz hbel
  go_enter Try.func43, Try.ntmps43
  go_wp2_with fail
  clear hrun
  go_loopw [1, 8] (fun ov jv wr => ∃ (n : Nat) (st : Fct), n ≤ 20 ∧ jv = .int .i64 ((n : Int) - 1) ∧ ov = .int .i64 (st.1 : Int) ∧ wo kn n st = left kn x t ∧ st.1 < 1048576 ∧ st.2.size = z ∧ WoAt w wr p K m z of kn st) (fun _ jv _ => (intOf jv + 1).toNat)
  case atStart => exact ⟨20, (x, t), Nat.le_refl _, rfl, rfl, rfl, hx, ht, hw0⟩
  case round =>
    clear hw0 hbox
    obtain ⟨n, st, hn, rfl, rfl, hwo, hs1, hs2, hat⟩ := hrel
    have Hwo := hide hwo
    clear hwo
    by_cases hn0 : n = 0
    · subst hn0
      have hst : st = left kn x t := Hwo.out
      rw [← hst]
      have hc : ∀ i, i < z → wr.cell? ⟨w.heap.size + 1, 0 + i, none⟩ = some (.int .u8 ((numsB st.2).getD i 0)) := fun i hi => by
        rw [Nat.zero_add, numsB_getD]; exact hat.bytes.cell i hi
      have hcv := run_convert_bytes_arg (P := Try.prog) wr 55 5 Try.underlying55 Try.underlying5 (w.heap.size + 1) 0 z cap (numsB st.2) (by rw [numsB_length]; exact hs2) hc 9 Try.underlying9
      rw [strOfNums_numsB] at hcv
      have r0 := (two_cells hat.res).1
      have r1 := (two_cells hat.res).2
      have z0 := two_frozen hat.res 0
      have z1 := two_frozen hat.res 1
      have hres := hat.res
      have hbl := hat.below
      have Hst := hide hst
      clear hc hat hst Hwo
      have hfin : ∀ w', w' = (wr.setCell ⟨w.heap.size, 0, none⟩ (.int .i64 (st.1 : Int))).setCell ⟨w.heap.size, 1, none⟩ (.string st.2) → w'.heap[w.heap.size]? = some (.cells #[.int .i64 (st.1 : Int), .string st.2] 60 (0, 0)) ∧ Below w.heap.size w w' := by
        rintro w' rfl
        have h1 := heap_setCell_same wr w.heap.size 0 _ _ (.int .i64 (st.1 : Int)) hres
        have h2 := heap_setCell_same _ w.heap.size 1 _ _ (.string st.2) h1
        exact ⟨by rw [h2]; rfl, (hbl.setCell (Nat.le_refl _) _).setCell (Nat.le_refl _) _⟩
      clear hres hbl
      go_wp2_with fail
      obtain ⟨hf1, hf2⟩ := hfin _ rfl
      exact bodyPost_ret (v := .agg #[.int .i64 (st.1 : Int), .string st.2]) (results_cell_row Try.results43 _ _ w.heap.size 60 _ (0, 0) _ rfl hf1 Try.underlying60 rfl Try.sizeSum) rfl ⟨by rw [Hst.out], hf2⟩
    · have hj : n - 1 < 20 := by omega
      obtain ⟨c0, c1⟩ := hat.box.known hj
      have hcast : ((n : Int) - 1) = ((n - 1 : Nat) : Int) := by omega
      rw [hcast]
      have hwn : wo kn n st = wo kn (n - 1) (woStep kn (n - 1) st) := by
        obtain ⟨q, rfl⟩ : ∃ q, n = q + 1 := ⟨n - 1, by omega⟩
        rfl
      have Hwn := hide hwn
      have hk1 := hkn.lt hK (n - 1)
      clear hwn hcast
      obtain ⟨b1, b2⟩ := bit_eq st.1 (n - 1) (by omega) (by omega)
      clear b2
      have hz2 : (kn (n - 1)).1 ≠ 0 → (kn (n - 1)).2.size = z := fun h0 => (hkn.log h0).2.2.2.1
      generalize hjn : n - 1 = j at *
      have Hjn := hide hjn
      clear hjn
      have i1 : (0 : Int) ≤ (j : Int) := by omega
      have i2 : (j : Int) < 20 := by omega
      have hp := hat.box.lt
      have hpw : p < w.heap.size := hpw0
      by_cases hb : st.1.testBit j = true
      · rw [hb] at b1
        by_cases hf0 : (kn j).1 = 0
        · have hs : woStep kn j st = st := by unfold woStep; rw [if_neg (fun h => h.2 hf0)]
          have Hs := hide hs
          have f0 : (((kn j).1 : Int) == 0) = true := by rw [hf0]; rfl
          clear hs hf0
          go_wp2_with fail
          go_roundw
          case rel => exact ⟨j, st, by omega, rfl, rfl, by rw [← Hwo.out, Hwn.out, Hs.out], hs1, hs2, hat.on ((Below.refl _ _).alloc (Nat.le_refl _) _)⟩
          case measure => simp [intOf]
        · have hs : woStep kn j st = (st.1 ^^^ (kn j).1, xorB st.2 (kn j).2) := by unfold woStep; rw [if_pos ⟨hb, hf0⟩]
          have Hs := hide hs
          have f0 : (((kn j).1 : Int) == 0) = false := by simpa using hf0
          have hzk := hz2 hf0
          have hxx := i64_xor_nat st.1 (kn j).1 (by omega) (by omega)
          have Hxx := hide hxx
          have hlt2 : st.1 ^^^ (kn j).1 < 2 ^ 20 := Nat.xor_lt_two_pow (by omega) (by omega)
          have hin : WoIn w (wr.alloc (.cells #[.int .i64 ((kn j).1 : Int), .string (kn j).2] 60)) p K m z of kn st.2 (kn j) wr.heap.size 0 := by
            have h := hat.on ((Below.refl wr.heap.size wr).alloc (Nat.le_refl _) (.cells #[.int .i64 ((kn j).1 : Int), .string (kn j).2] 60))
            exact ⟨h.box, h.res, heap_alloc_new wr _, h.bytes.congr (fun i _ => by rw [halfByte_zero]), h.below⟩
          have hql := hat.bytes.lt
          clear hs hf0 hxx hz2 hat
          generalize kn j = f at *
          generalize hq : wr.heap.size = q at *
          go_wp2_with fail
          go_loopw [10] (fun kv wi => ∃ k : Nat, k ≤ z ∧ kv = .int .i64 (k : Int) ∧ WoIn w wi p K m z of kn st.2 f q k) (fun kv _ => z - (intOf kv).toNat)
          case atStart => exact ⟨0, Nat.zero_le _, rfl, hin⟩
          case round =>
            clear hin
            obtain ⟨k, hk, rfl, hin⟩ := hrel
            obtain ⟨e0, e1⟩ := two_cells hin.known
            by_cases hkz : k < z
            · have hcell := hin.bytes.cell k hkz
              have hfrz := hin.bytes.frozen k hkz
              rw [halfByte_here] at hcell
              have hpn : k < f.2.size := by omega
              have g2 := byteAt_get f.2 k hpn
              have hx8 := u8_xor_nat (byteAt st.2 k).toNat (byteAt f.2 k).toNat (byteAt st.2 k).toNat_lt (byteAt f.2 k).toNat_lt
              have hnext := (hin.step hpw (by omega) hkz).drew
              have i3 : (0 : Int) ≤ (k : Int) := by omega
              have i4 : (k : Int) < (z : Int) := by omega
              have i5 : (k : Int) < (f.2.size : Int) := by omega
              clear hin
              go_wp2_with fail
              go_region
              all_goals
                clear hcell hfrz g2 hx8 e0 e1
                go_wp2
                go_roundw
                case rel => exact ⟨k + 1, by omega, by go_num, hnext⟩
                case measure => simp [intOf]; omega
            · have hkk : k = z := by omega
              subst hkk
              have hbytes : BytesAt wr (w.heap.size + 1) k (byteAt (xorB st.2 f.2)) := hin.bytes.congr (fun i hi => by
                have := halfByte_all st.2 f.2 (by omega) i (by omega)
                rw [hs2] at this
                exact this)
              have hnext : WoAt w wr p K m k of kn (st.1 ^^^ f.1, xorB st.2 f.2) := ⟨hin.box, hin.res, hbytes, hin.below⟩
              clear hin hbytes
              go_wp2_with fail
              go_roundw
              case rel => exact ⟨j, (st.1 ^^^ f.1, xorB st.2 f.2), by omega, rfl, by rw [Hxx.out], by rw [← Hwo.out, Hwn.out, Hs.out], by show st.1 ^^^ f.1 < _; omega, by rw [xorB_size (by omega)]; exact hs2, hnext⟩
              case measure => simp [intOf]
      · have hb' : st.1.testBit j = false := by simpa using hb
        rw [hb'] at b1
        have hs : woStep kn j st = st := by unfold woStep; rw [if_neg (fun h => hb h.1)]
        have Hs := hide hs
        clear hs
        go_wp2_with fail
        go_roundw
        case rel => exact ⟨j, st, by omega, rfl, rfl, by rw [← Hwo.out, Hwn.out, Hs.out], hs1, hs2, hat.on ((Below.refl _ _).alloc (Nat.le_refl _) _)⟩
        case measure => simp [intOf]

end Go.Proofs.Ytnjaofkieajnlab
