/- Texts of the proof, part 14. -/
import Derived.BigQuiet
import Derived.BigRegion
import Derived.Deep.MidRow
import Derived.Laws.ResultCell
import Derived.Lib.AppendStr
import Derived.Test.YtnjaofkieajnlaaGreatTakenG12
import Derived.Test.YtnjaofkieajnlaaGreatTakenG7

/- The program's packets: the sum of a text's bytes, and the text of a packet. -/
namespace Go.Proofs.YtnjaofkieajnlaaGreat
open Go.RowKit

/-- The sum of the first k bytes. -/
def addTo (t : ByteArray) : Nat → UInt8
  | 0 => 0
  | k + 1 => addTo t k + byteAt t k

theorem add_u8 (a b : UInt8) : ((a.toNat : Int) + (b.toNat : Int)) % 256 = ((a + b).toNat : Int) := by
  rw [UInt8.toNat_add]
  omega

theorem neg_u8 (a : UInt8) : (-(a.toNat : Int)) % 256 = ((0 - a).toNat : Int) := by
  have h1 := a.toNat_lt
  rw [UInt8.toNat_sub]
  simp
  omega

theorem chk_add (t : ByteArray) (k : Nat) : chkTo t k = 0 - addTo t k := by
  induction k with
  | zero => simp [chkTo, addTo]
  | succ k ih =>
    show chkTo t k - byteAt t k = 0 - (addTo t k + byteAt t k)
    rw [ih]
    apply UInt8.toNat_inj.1
    rw [UInt8.toNat_sub, UInt8.toNat_sub, UInt8.toNat_sub, UInt8.toNat_add]
    have h1 := (addTo t k).toNat_lt
    have h2 := (byteAt t k).toNat_lt
    simp
    omega

set_option maxRecDepth 100000 in
set_option maxHeartbeats 4000000 in
theorem ptotal_any (t : ByteArray) (w : World) (ht : t.size ≤ 1000) :
    Calls Tryz.prog 114 #[.string t] w fun e w' => e = .returned (.int .u8 ((addTo t t.size).toNat : Int)) ∧ w' = w := by
  go_enter Tryz.func114, Tryz.ntmps114
  go_wp2_with fail
  go_loop [3, 4] (fun sv iv => ∃ k : Nat, k ≤ t.size ∧ iv = .int .i64 (k : Int) ∧ sv = .int .u8 ((addTo t k).toNat : Int)) (fun _ iv => t.size - (intOf iv).toNat)
  case atStart => exact ⟨0, Nat.zero_le _, rfl, rfl⟩
  case round =>
    obtain ⟨k, hk, rfl, rfl⟩ := hrel
    by_cases hlt : k < t.size
    · have g2 := byteAt_get t k hlt
      have hsu := add_u8 (addTo t k) (byteAt t k)
      have hnx : addTo t (k + 1) = addTo t k + byteAt t k := rfl
      have Hnx := hide hnx
      have Hsu := hide hsu
      have i1 : (0 : Int) ≤ (k : Int) := by omega
      have i2 : (k : Int) < (t.size : Int) := by omega
      clear hnx hsu
      go_wp2_with fail
      go_round
      case rel => exact ⟨k + 1, by omega, by go_num, by rw [Hnx.out, ← Hsu.out]⟩
      case measure => simp [intOf]; omega
    · have hkk : k = t.size := by omega
      subst hkk
      go_wp2_with fail
      go_ret
      exact ⟨rfl, rfl⟩

/-- A packet's parts as a value. -/
abbrev pkC (K M O S z i : Int) (p : ByteArray) : Array Value := #[.int .i64 K, .int .i64 M, .int .i64 O, .int .i64 S, .int .i64 z, .int .i64 i, .string p]

theorem pk_cells {w : World} {q : Nat} {K M O S z i : Int} {p : ByteArray} {t : TypeId} (h : w.heap[q]? = some (.cells (pkC K M O S z i p) t (0, 0))) :
    w.cell? ⟨q, 0, none⟩ = some (.int .i64 K) ∧ w.cell? ⟨q, 1, none⟩ = some (.int .i64 M) ∧ w.cell? ⟨q, 2, none⟩ = some (.int .i64 O) ∧ w.cell? ⟨q, 3, none⟩ = some (.int .i64 S) ∧ w.cell? ⟨q, 4, none⟩ = some (.int .i64 z) ∧ w.cell? ⟨q, 5, none⟩ = some (.int .i64 i) ∧ w.cell? ⟨q, 6, none⟩ = some (.string p) := by
  refine ⟨?_, ?_, ?_, ?_, ?_, ?_, ?_⟩ <;> rw [cell_of_row _ _ _ _ _ _ h] <;> rfl

theorem bytesV_app (a b : ByteArray) : bytesV (a ++ b) = bytesV a ++ bytesV b := by
  unfold bytesV numsB
  simp

theorem bytesV_str (a : ByteArray) : Go.Lib.strCells a = bytesV a := by
  unfold bytesV numsB Go.Lib.strCells
  rw [List.map_map]; rfl

theorem bytesV_one (a : ByteArray) : ∀ u ∈ bytesV a, u.oneCell' = true := by
  rw [← bytesV_str]; exact Go.Lib.strCells_oneCell a

theorem run_make_byteRow (n : Nat) (hn : n ≤ 1000000) (w : World) : (Instr.makeSlice 106 (.int .i64 0) (.int .i64 (n : Int))).run Tryz.prog w = .ok (.slice (some ⟨w.heap.size, 0, none⟩) 0 n) (w.alloc (.cells (madeCells #[.int .u8 0] n) 5)) := by
  obtain ⟨i, hi, hzz⟩ := Option.map_eq_some_iff.1 Tryz.infoByte
  simp only [Prod.mk.injEq] at hzz
  obtain ⟨hz, hs, hb⟩ := hzz
  have h := run_make (P := Tryz.prog) w 106 5 i (.int .u8 0) Tryz.underlying106 hi hz .i64 .i64 0 (n : Int) (by omega) (by omega) (by rw [hb]; omega) (by omega)
  simp only [Int.toNat_natCast, hs, Nat.mul_one] at h
  exact h

/-- Bytes that the call owns, as a text. -/
theorem conv_own (B : ByteArray) (v : Value) (n base : Nat) (w : World) (h : w.ownsRow base 5 1 v n (bytesV B)) (hn : n = B.size) (h0 : 0 < n) : (convert 106 9 v).run Tryz.prog w = .ok (.string B) w := by
  subst hn
  rcases h.2 with ⟨_, h1⟩ | ⟨g, cap, cur, rfl, _⟩
  · omega
  · have hcell := h.cells (g := g) rfl
    have hcells : ∀ j, j < B.size → w.cell? ⟨g, 0 + j, none⟩ = some (.int .u8 ((numsB B).getD j 0)) := fun j hj => by
      rw [numsB_getD, ← Addr.add_mid]
      exact hcell j _ (bytesV_getElem B j hj)
    have hcv := run_convert_bytes_arg (P := Tryz.prog) w 106 5 Tryz.underlying106 Tryz.underlying5 g 0 B.size cap (numsB B) (numsB_length B) hcells 9 Tryz.underlying9
    rw [strOfNums_numsB] at hcv
    exact hcv

theorem below_own {W W' : World} {base : Nat} {e : TypeId} {size : Nat} {v : Value} {n : Nat} {xs : List Value} {o : Obj} (h : W.ownsRow base e size v n xs) (hg : (W.alloc o).grownBy W' v.ownBlock) (hb : base ≤ W.heap.size) : Below base W W' :=
  (Below.refl base W).grown (grownBy_of_alloc hg) hb (fun k e => (h.lt k e).1)

theorem below_ownS {W W' : World} {base : Nat} {e : TypeId} {size : Nat} {v : Value} {n : Nat} {xs : List Value} (h : W.ownsRow base e size v n xs) (hg : W.grownBy W' v.ownBlock) (hb : base ≤ W.heap.size) : Below base W W' :=
  (Below.refl base W).grown hg hb (fun k e => (h.lt k e).1)

theorem block_low {W W' : World} {base k : Nat} {o : Obj} (h : W.heap[k]? = some o) (hb : Below base W W') (hk : k < base) : W'.heap[k]? = some o := by rw [hb.block k hk]; exact h

/-- Bytes laid in a block, to be appended. -/
theorem byte_news (W : World) (B : ByteArray) (cs : Array Value) (hc : cs.toList = bytesV B) : ∀ j u, (bytesV B)[j]? = some u → (W.alloc (.cells cs 5)).cell? ((⟨W.heap.size, 0, none⟩ : Addr).add j) = some u := by
  rw [← hc]
  exact World.news_of_block (cs := cs) (t := 5) (fr := (0, 0)) (heap_alloc_new W _)

theorem bytesV_len (B : ByteArray) : (bytesV B).length = B.size := by unfold bytesV; rw [List.length_map, numsB_length]

/-- The head of a packet, in its three parts. -/
theorem head_parts (K M O S z i : Nat) (p : ByteArray) : ((ByteArray.mk #[82, UInt8.ofNat K, UInt8.ofNat M, UInt8.ofNat O] ++ ByteArray.mk #[UInt8.ofNat (S % 256), UInt8.ofNat (S / 256)]) ++ ByteArray.mk #[UInt8.ofNat z, UInt8.ofNat i]) ++ p = packT K M O S z i p := by
  unfold packT headB
  congr 1

set_option maxRecDepth 100000 in
set_option maxHeartbeats 8000000 in
theorem ptext_any (K M O S z i : Nat) (p : ByteArray) (w : World) (hK : K ≤ 20) (hM : M ≤ 20) (hO : O ≤ 20) (hS : S ≤ 65535) (hz : z ≤ 255) (hi : i ≤ 255) (hp : p.size ≤ 900) :
    Calls Tryz.prog 120 #[.agg (pkC K M O S z i p)] w fun e w' => e = .returned (.string (packB K M O S z i p)) ∧ Below w.heap.size w w' := by
  obtain ⟨i0, hi0, hz0, hz1, hz2⟩ := info_parts Tryz.infoByte
  have hmk : ∀ w, (Instr.makeSlice 106 (.int .i64 0) (.int .i64 25)).run Tryz.prog w = .ok (.slice (some ⟨w.heap.size, 0, none⟩) 0 25) (w.alloc (.cells (madeCells #[.int .u8 0] 25) 5)) := run_make_byteRow 25 (by omega)
  have hB : packB K M O S z i p = packT K M O S z i p ++ ⟨#[chkTo (packT K M O S z i p) (packT K M O S z i p).size]⟩ := rfl
  rw [hB, chk_add]
  have hts := packT_size K M O S z i p
  have hparts := head_parts K M O S z i p
  have n1 : bytesV ⟨#[82, UInt8.ofNat K, UInt8.ofNat M, UInt8.ofNat O]⟩ = [.int .u8 82, .int .u8 (K : Int), .int .u8 (M : Int), .int .u8 (O : Int)] := by
    show [Value.int .u8 _, Value.int .u8 ((UInt8.ofNat K).toNat : Int), Value.int .u8 ((UInt8.ofNat M).toNat : Int), Value.int .u8 ((UInt8.ofNat O).toNat : Int)] = _
    rw [ofNat_u8 K (by omega), ofNat_u8 M (by omega), ofNat_u8 O (by omega)]; rfl
  have n2 : bytesV ⟨#[UInt8.ofNat (S % 256), UInt8.ofNat (S / 256)]⟩ = [.int .u8 ((S % 256 : Nat) : Int), .int .u8 ((S / 256 : Nat) : Int)] := by
    show [Value.int .u8 ((UInt8.ofNat (S % 256)).toNat : Int), Value.int .u8 ((UInt8.ofNat (S / 256)).toNat : Int)] = _
    rw [ofNat_u8 (S % 256) (by omega), ofNat_u8 (S / 256) (by omega)]
  have n3 : bytesV ⟨#[UInt8.ofNat z, UInt8.ofNat i]⟩ = [.int .u8 (z : Int), .int .u8 (i : Int)] := by
    show [Value.int .u8 ((UInt8.ofNat z).toNat : Int), Value.int .u8 ((UInt8.ofNat i).toNat : Int)] = _
    rw [ofNat_u8 z (by omega), ofNat_u8 i (by omega)]
  have s1 : (ByteArray.mk #[82, UInt8.ofNat K, UInt8.ofNat M, UInt8.ofNat O]).size = 4 := rfl
  have s2 : (ByteArray.mk #[UInt8.ofNat (S % 256), UInt8.ofNat (S / 256)]).size = 2 := rfl
  have s3 : (ByteArray.mk #[UInt8.ofNat z, UInt8.ofNat i]).size = 2 := rfl
  generalize packT K M O S z i p = T at *
  obtain ⟨y, hy⟩ : ∃ y, y = addTo T T.size := ⟨_, rfl⟩
  rw [← hy]
  have HY := hide hy
  clear hy
  generalize ByteArray.mk #[82, UInt8.ofNat K, UInt8.ofNat M, UInt8.ofNat O] = B1 at *
  generalize ByteArray.mk #[UInt8.ofNat (S % 256), UInt8.ofNat (S / 256)] = B2 at *
  generalize ByteArray.mk #[UInt8.ofNat z, UInt8.ofNat i] = B3 at *
  have HP := hide hparts
  have N1 := hide n1
  have N2 := hide n2
  have N3 := hide n3
  clear hparts n1 n2 n3 hB
  go_enter Tryz.func120, Tryz.ntmps120
  go_upto_region 3 with fail
  have hbA : Below w.heap.size w (((w.alloc (.cells (pkC K M O S z i p) 142)).alloc (specB K M O S)).alloc (.cells (madeCells #[.int .u8 0] 25) 5)) := (((Below.refl _ _).alloc (Nat.le_refl _) _).alloc (by simp) _).alloc (by simp; omega) _
  have hpk : (((w.alloc (.cells (pkC K M O S z i p) 142)).alloc (specB K M O S)).alloc (.cells (madeCells #[.int .u8 0] 25) 5)).heap[w.heap.size]? = some (.cells (pkC K M O S z i p) 142 (0, 0)) := by
    rw [heap_alloc_old _ _ (by simp; omega), heap_alloc_old _ _ (by simp)]; exact heap_alloc_new w _
  have hsp : (((w.alloc (.cells (pkC K M O S z i p) 142)).alloc (specB K M O S)).alloc (.cells (madeCells #[.int .u8 0] 25) 5)).heap[w.heap.size + 1]? = some (specB K M O S) := by
    rw [heap_alloc_old _ _ (by simp)]; exact heap_alloc2_new w _ _
  have hown : (((w.alloc (.cells (pkC K M O S z i p) 142)).alloc (specB K M O S)).alloc (.cells (madeCells #[.int .u8 0] 25) 5)).ownsRow (w.heap.size + 2) 5 1 (.slice (some ⟨w.heap.size + 1 + 1, 0, none⟩) 0 25) 0 [] := by
    have := World.ownsRow_made (base := w.heap.size + 2) (e := 5) (size := 1) ((w.alloc (.cells (pkC K M O S z i p) 142)).alloc (specB K M O S)) (madeCells #[.int .u8 0] 25) 25 (by simp) (by unfold maxLen; omega) (by simp [size_madeCells])
    simpa using this
  have hsz : w.heap.size + 2 ≤ (((w.alloc (.cells (pkC K M O S z i p) 142)).alloc (specB K M O S)).alloc (.cells (madeCells #[.int .u8 0] 25) 5)).heap.size := by simp
  generalize ((w.alloc (.cells (pkC K M O S z i p) 142)).alloc (specB K M O S)).alloc (.cells (madeCells #[.int .u8 0] 25) 5) = W at *
  clear hmk
  obtain ⟨c0, c1, c2, c3⟩ := spec_cells hsp
  go_wp2_with (at_builtin; refine wpList_append_lies _ rfl (.tmp 9) (.tmp 19) 106 rfl (w.heap.size + 2) 5 i0 (.int .u8 0) 1 1 Tryz.underlying106 hi0 hz0 hz1 hz2 rfl (by decide) _ _ _ rfl (hown.alloc _) ⟨W.heap.size, 0, none⟩ 4 4 (bytesV B1) rfl (by rw [bytesV_len, s1]) (byte_news W B1 _ (by rw [N1.out])) (bytesV_one B1) (by decide) (by unfold maxLen; omega) (by omega) (by simp; omega) (W.heap.size + 1) (by simp) ?_)
  intro g1 k1 W1 hown1 hgr1 hat1 hlt1
  have hb1 := below_own hown hgr1 hsz
  have hpk1 := block_low hpk hb1 (by omega)
  have hsp1 := block_low hsp hb1 (by omega)
  have hsz1 := Nat.le_trans hsz hb1.size
  have hbA1 := hbA.trans (hb1.mono (by omega))
  have hown1' : W1.ownsRow (w.heap.size + 2) 5 1 (.slice (some ⟨g1, 0, none⟩) 4 k1) 4 (bytesV B1) := hown1
  clear hown hgr1 hat1 hlt1 hpk hsp hbA hb1 c0 c1 c2 c3 hown1 hsz
  obtain ⟨c0, c1, c2, c3⟩ := spec_cells hsp1
  go_wp2_with (at_builtin; refine wpList_append_lies _ rfl (.tmp 21) (.tmp 30) 106 rfl (w.heap.size + 2) 5 i0 (.int .u8 0) 1 1 Tryz.underlying106 hi0 hz0 hz1 hz2 rfl (by decide) _ _ _ rfl (hown1'.alloc _) ⟨W1.heap.size, 0, none⟩ 2 2 (bytesV B2) rfl (by rw [bytesV_len, s2]) (byte_news W1 B2 _ (by rw [N2.out]; rfl)) (bytesV_one B2) (by decide) (by unfold maxLen; omega) (by omega) (by simp; omega) (W1.heap.size + 1) (by simp) ?_)
  intro g2 k2 W2 hown2 hgr2 hat2 hlt2
  have hb2 := below_own hown1' hgr2 hsz1
  have hpk2 := block_low hpk1 hb2 (by omega)
  have hsz2 := Nat.le_trans hsz1 hb2.size
  have hbA2 := hbA1.trans (hb2.mono (by omega))
  have hown2' : W2.ownsRow (w.heap.size + 2) 5 1 (.slice (some ⟨g2, 0, none⟩) 6 k2) 6 (bytesV (B1 ++ B2)) := by rw [bytesV_app]; exact hown2
  clear hown1' hgr2 hat2 hlt2 hpk1 hsp1 hbA1 hb2 c0 c1 c2 c3 hown2 hsz1
  obtain ⟨c0, c1, c2, c3, c4, c5, c6⟩ := pk_cells hpk2
  clear c0 c1 c2 c3
  go_wp2_with (at_builtin; refine wpList_append_lies _ rfl (.tmp 32) (.tmp 39) 106 rfl (w.heap.size + 2) 5 i0 (.int .u8 0) 1 1 Tryz.underlying106 hi0 hz0 hz1 hz2 rfl (by decide) _ _ _ rfl (hown2'.alloc _) ⟨W2.heap.size, 0, none⟩ 2 2 (bytesV B3) rfl (by rw [bytesV_len, s3]) (byte_news W2 B3 _ (by rw [N3.out])) (bytesV_one B3) (by decide) (by unfold maxLen; omega) (by omega) (by simp; omega) (W2.heap.size + 1) (by simp) ?_)
  intro g3 k3 W3 hown3 hgr3 hat3 hlt3
  have hb3 := below_own hown2' hgr3 hsz2
  have hpk3 := block_low hpk2 hb3 (by omega)
  have hsz3 := Nat.le_trans hsz2 hb3.size
  have hbA3 := hbA2.trans (hb3.mono (by omega))
  have hown3' : W3.ownsRow (w.heap.size + 2) 5 1 (.slice (some ⟨g3, 0, none⟩) 8 k3) 8 (bytesV (B1 ++ B2 ++ B3)) := by rw [bytesV_app (B1 ++ B2)]; exact hown3
  clear hown2' hgr3 hat3 hlt3 hpk2 hbA2 hb3 c4 c5 c6 hown3 hsz2
  obtain ⟨c0, c1, c2, c3, c4, c5, c6⟩ := pk_cells hpk3
  clear c0 c1 c2 c3 c4 c5
  go_wp2_with (at_builtin; refine Go.Lib.wpList_append_own_string _ rfl (.tmp 41) (.tmp 43) 106 9 rfl (w.heap.size + 2) 5 i0 Tryz.underlying106 Tryz.underlying9 hi0 hz0 hz1 hz2 _ _ _ rfl hown3' p rfl (by unfold maxLen; omega) (by omega) (by omega) ?_)
  intro v4 W4 hown4 hgr4 hn4
  have hb4 := below_ownS hown3' hgr4 hsz3
  have hsz4 := Nat.le_trans hsz3 hb4.size
  have hbA4 := hbA3.trans (hb4.mono (by omega))
  rw [bytesV_str, ← bytesV_app, HP.out] at hown4
  obtain ⟨g4, k4, rfl, hg4, hgl4⟩ := hown4.form (by omega)
  have hcv4 := conv_own T _ _ _ W4 hown4 (by omega) (by omega)
  have htot : ∀ W, Calls Tryz.prog 114 #[.string T] W fun e w' => e = .returned (.int .u8 ((addTo T T.size).toNat : Int)) ∧ w' = W := fun W => ptotal_any T W (by omega)
  have hng := neg_u8 (addTo T T.size)
  rw [← HY.out] at htot hng
  clear hown3' hgr4 hn4 hbA3 hb4 c6 hsz3 hpk3 HP N1 N2 N3 s1 s2 s3
  go_wp2_with fail
  refine (htot _).mono ?_
  rintro e W5 ⟨rfl, rfl⟩
  clear hcv4 htot
  have n5 : bytesV ⟨#[0 - y]⟩ = [.int .u8 (-((y).toNat : Int) % 256)] := by rw [hng]; rfl
  have s5 : (ByteArray.mk #[0 - y]).size = 1 := rfl
  have hTB : (T ++ ⟨#[0 - y]⟩).size = 8 + p.size + 1 := by rw [ByteArray.size_append, hts]; rfl
  have N5 := hide n5
  obtain ⟨B5, hB5⟩ : ∃ B5, B5 = ByteArray.mk #[0 - y] := ⟨_, rfl⟩
  rw [← hB5] at N5 s5 hTB
  have HB5 := hide hB5
  clear hB5
  clear n5 hng
  go_wp2_with (at_builtin; refine wpList_append_lies _ rfl (.tmp 49) (.tmp 51) 106 rfl (w.heap.size + 2) 5 i0 (.int .u8 0) 1 1 Tryz.underlying106 hi0 hz0 hz1 hz2 rfl (by decide) _ _ _ rfl (hown4.alloc _) ⟨W5.heap.size, 0, none⟩ 1 1 (bytesV B5) rfl (by rw [bytesV_len, s5]) (byte_news W5 B5 _ (by rw [N5.out])) (bytesV_one B5) (by decide) (by unfold maxLen; omega) (by omega) (by simp; omega) (W5.heap.size + 1) (by simp) ?_)
  intro g6 k6 W6 hown6 hgr6 hat6 hlt6
  have hb6 := below_own hown4 hgr6 hsz4
  have hbA6 := hbA4.trans (hb6.mono (by omega))
  rw [← bytesV_app] at hown6
  have hcv6 := conv_own (T ++ B5) _ _ _ W6 hown6 hTB.symm (by omega)
  clear hown4 hgr6 hat6 hlt6 hbA4 hb6 hsz4 hown6 N5
  go_wp2_with fail
  go_ret
  exact ⟨by rw [← HB5.out]; rfl, hbA6⟩

end Go.Proofs.YtnjaofkieajnlaaGreat

/- The program's read of a packet. -/
namespace Go.Proofs.YtnjaofkieajnlaaGreat
open Go.RowKit

theorem mayb_below (K M O S : Int) (w : World) :
    Calls Tryz.prog 111 #[specV K M O S] w fun e w' => e = .returned (.bool (mayB K M O S)) ∧ Below w.heap.size w w' :=
  (maybe_any K M O S w).mono fun _ _ ⟨he, hw⟩ => ⟨he, by rw [hw]; exact (Below.refl _ _).alloc (Nat.le_refl _) _⟩

theorem Tryz.sizePk : (Tryz.prog.info? 142).map (·.size) = some 7 := by kernel_rfl

theorem pk_one (K M O S z i : Int) (p : ByteArray) : (pkC K M O S z i p).all (fun x => x.oneCell') = true := by
  simp [Value.oneCell']

theorem results_pread (tmps : Array Value) (w : World) (g : Nat) (K M O S z i : Int) (q : ByteArray) (fr : Nat × Nat) (hp : tmps.getD 2 undef = .pointer (some ⟨g, 0, none⟩)) (hg : w.heap[g]? = some (.cells (pkC K M O S z i q) 142 fr)) :
    (results Tryz.f91 tmps).run Tryz.prog w = .ok (.tuple #[.agg (pkC K M O S z i q), tmps.getD 3 undef]) w := by
  have hl := run_loadVar_row (P := Tryz.prog) w g 142 142 _ fr _ hg Tryz.underlying142 rfl Tryz.sizePk
  have hp' : tmps[2]?.getD undef = .pointer (some ⟨g, 0, none⟩) := by simpa using hp
  simp [results, Tryz.results91, hp', asAddr, hl]

/-- The packet that is none. -/
abbrev pk0 : Array Value := pkC 0 0 0 0 0 0 ⟨#[]⟩

set_option maxRecDepth 100000 in
set_option maxHeartbeats 8000000 in
theorem pread_short (p : ByteArray) (w : World) (hp : (p.size : Int) < 8 ∨ (8 ≤ p.size ∧ byteAt p 0 ≠ 82)) :
    Calls Tryz.prog 91 #[.string p] w fun e w' => e = .returned (.tuple #[.agg pk0, .bool false]) ∧ Below w.heap.size w w' := by
  have hbA : Below w.heap.size w (w.alloc (.cells pk0 142)) := (Below.refl _ _).alloc (Nat.le_refl _) _
  have hres : (w.alloc (.cells pk0 142)).heap[w.heap.size]? = some (.cells pk0 142 (0, 0)) := heap_alloc_new w _
  have hone := pk_one 0 0 0 0 0 0 ⟨#[]⟩
  have hf1 := setRow_heap _ _ _ pk0 _ _ hres
  have hf2 : Below w.heap.size w ((w.alloc (.cells pk0 142)).setRow w.heap.size pk0) := ((Chg.of_below hbA (fun _ => False)).setRow (Or.inl (Nat.le_refl _)) _).below (fun _ _ f => f)
  have Hf1 := hide hf1
  have Hf2 := hide hf2
  have Hres := hide hres
  clear hf1 hf2 hbA hres
  rcases hp with hp | ⟨hp, h0⟩
  · go_enter Tryz.func91, Tryz.ntmps91
    go_wp2_with (first | (refine wpList_store_row rfl 142 (.tmp 2) (.tmp 15) rfl w.heap.size pk0 rfl rfl 142 pk0 Hres.out Tryz.sizePk rfl hone ?_))
    exact bodyPost_ret (results_pread _ _ w.heap.size 0 0 0 0 0 0 _ _ rfl Hf1.out) rfl ⟨rfl, Hf2.out⟩
  · have hl1 : ¬ (p.size : Int) < 8 := by omega
    have g0 := byteAt_get p 0 (by omega)
    have i0 : (0 : Int) < (p.size : Int) := by omega
    have b0 := (byteAt p 0).toNat_lt
    have h0b : (((byteAt p 0).toNat : Int) != 82) = true := by
      simp only [bne_iff_ne, ne_eq]
      intro e
      exact h0 (UInt8.toNat_inj.1 (by show (byteAt p 0).toNat = 82; omega))
    clear h0
    go_enter Tryz.func91, Tryz.ntmps91
    go_wp2_with (first | (refine wpList_store_row rfl 142 (.tmp 2) (.tmp 15) rfl w.heap.size pk0 rfl rfl 142 pk0 Hres.out Tryz.sizePk rfl hone ?_))
    exact bodyPost_ret (results_pread _ _ w.heap.size 0 0 0 0 0 0 _ _ rfl Hf1.out) rfl ⟨rfl, Hf2.out⟩

abbrev pkL (K M O S z i : Int) (p : ByteArray) : List Value := [.int .i64 K, .int .i64 M, .int .i64 O, .int .i64 S, .int .i64 z, .int .i64 i, .string p]

/-- 'build' at a packet, kept whole. -/
noncomputable def builtPk (parts : Array (Nat × Value)) : Sem Value := Instr.build 142 parts

theorem build_maskPk (parts : Array (Nat × Value)) : Instr.build 142 parts = builtPk parts := rfl

theorem built_pk (K M O S z i : Int) (p : ByteArray) : Tryz.prog.built 142 [(0, specV K M O S), (1, .int .i64 z), (2, .int .i64 i), (3, .string p)] = some (pkL K M O S z i p).toArray := by kernel_rfl

theorem pk_build (K M O S z i : Int) (p : ByteArray) (w : World) : (builtPk #[(0, specV K M O S), (1, .int .i64 z), (2, .int .i64 i), (3, .string p)]).run Tryz.prog w = .ok (.agg (pkL K M O S z i p).toArray) w :=
  run_build (P := Tryz.prog) w 142 #[(0, specV K M O S), (1, .int .i64 z), (2, .int .i64 i), (3, .string p)] _ (built_pk K M O S z i p)

theorem pk_there {w : World} {b : Nat} {K M O S z i : Int} {p : ByteArray} {t : TypeId} (h : w.heap[b]? = some (.cells (pkC K M O S z i p) t (0, 0))) : w.there b 0 7 := fun j hj => by
  rw [Nat.zero_add, cell_of_row _ _ _ _ _ _ h, Array.getElem?_eq_getElem (show j < (pkC K M O S z i p).size from hj)]
  exact ⟨rfl, by simp [World.frozen?, h]⟩

theorem pk_store (b : Nat) (K M O S z i : Int) (p : ByteArray) (w : World) (ht : w.there b 0 7) : (storeCells ⟨b, 0, none⟩ (pkL K M O S z i p)).run Tryz.prog w = .ok () (w.setCells b 0 (pkL K M O S z i p)) :=
  run_storeCells_cells (P := Tryz.prog) b 0 (pkL K M O S z i p) 0 w (fun j hj => by simpa using (ht j hj).1) (fun j hj => by simpa using (ht j hj).2) (by intro v hv; simp at hv; rcases hv with rfl | rfl | rfl | rfl | rfl | rfl | rfl <;> rfl)

theorem pk_below {n : Nat} {w w' : World} (h : Below n w w') {b : Nat} (hb : n ≤ b) : ∀ (o : Nat) (vs : List Value), Below n w (w'.setCells b o vs) := fun o vs => by
  induction vs generalizing o w' with
  | nil => exact h
  | cons v vs ih => exact ih (h.setCell hb v) (o + 1)

theorem pk_build0 (w : World) : (builtPk #[]).run Tryz.prog w = .ok (.agg pk0) w :=
  run_build (P := Tryz.prog) w 142 #[] pk0 (by kernel_rfl)

attribute [local go_sem ↓] build_maskPk

set_option maxRecDepth 100000 in
set_option maxHeartbeats 8000000 in
theorem pread_walk (p : ByteArray) (K M O S z i : Nat) (w : World) (hp : 8 ≤ p.size) (h0 : byteAt p 0 = 82) (e1 : (byteAt p 1).toNat = K) (e2 : (byteAt p 2).toNat = M) (e3 : (byteAt p 3).toNat = O) (e4 : (byteAt p 4).toNat + 256 * (byteAt p 5).toNat = S) (e6 : (byteAt p 6).toNat = z) (e7 : (byteAt p 7).toNat = i) :
    Calls Tryz.prog 91 #[.string p] w fun e w' => (((mayB K M O S = true ∧ 1 ≤ z ∧ z ≤ 16 ∧ i < K + M ∧ p.size = z + 9 ∧ addTo p p.size = 0) → e = .returned (.tuple #[.agg (pkC K M O S z i (p.extract 8 (8 + z))), .bool true])) ∧ (¬ (mayB K M O S = true ∧ 1 ≤ z ∧ z ≤ 16 ∧ i < K + M ∧ p.size = z + 9 ∧ addTo p p.size = 0) → e = .returned (.tuple #[.agg pk0, .bool false]))) ∧ Below w.heap.size w w' := by
  have g0 := byteAt_get p 0 (by omega)
  have g1 := byteAt_get p 1 (by omega)
  have g2 := byteAt_get p 2 (by omega)
  have g3 := byteAt_get p 3 (by omega)
  have g4 := byteAt_get p 4 (by omega)
  have g5 := byteAt_get p 5 (by omega)
  have g6 := byteAt_get p 6 (by omega)
  have g7 := byteAt_get p 7 (by omega)
  have b1 := (byteAt p 1).toNat_lt
  have b2 := (byteAt p 2).toNat_lt
  have b3 := (byteAt p 3).toNat_lt
  have b4 := (byteAt p 4).toNat_lt
  have b5 := (byteAt p 5).toNat_lt
  have b6 := (byteAt p 6).toNat_lt
  have b7 := (byteAt p 7).toNat_lt
  have i0 : (0 : Int) < (p.size : Int) := by omega
  have i1 : (1 : Int) < (p.size : Int) := by omega
  have i2 : (2 : Int) < (p.size : Int) := by omega
  have i3 : (3 : Int) < (p.size : Int) := by omega
  have i4 : (4 : Int) < (p.size : Int) := by omega
  have i5 : (5 : Int) < (p.size : Int) := by omega
  have i6 : (6 : Int) < (p.size : Int) := by omega
  have i7 : (7 : Int) < (p.size : Int) := by omega
  have hl1 : ¬ (p.size : Int) < 8 := by omega
  have h0b : (((byteAt p 0).toNat : Int) != 82) = false := by rw [h0]; rfl
  have HE := hide (And.intro e1 (And.intro e2 (And.intro e3 (And.intro e4 (And.intro e6 e7)))))
  clear e1 e2 e3 e4 e6 e7 h0
  go_enter Tryz.func91, Tryz.ntmps91
  go_upto_region 3 with fail
  have hbA : Below w.heap.size w (w.alloc (.cells pk0 142)) := (Below.refl _ _).alloc (Nat.le_refl _) _
  have hres : (w.alloc (.cells pk0 142)).heap[w.heap.size]? = some (.cells pk0 142 (0, 0)) := heap_alloc_new w _
  generalize w.alloc (.cells pk0 142) = W at *
  go_cut [4] (fun s4 wc => s4 = .pointer (some ⟨W.heap.size, 0, none⟩) ∧ wc = (W.alloc (specB K M O S)).drew)
  case first =>
    go_region
    obtain ⟨e1, e2, e3, e4, e6, e7⟩ := HE.out
    have e4' : (((byteAt p 4).toNat : Int) + 256 * ((byteAt p 5).toNat : Int)) = (S : Int) := by omega
    rw [e4', e1, e2, e3]
    go_wp2_with fail
    go_meet
    case rel => exact ⟨rfl, rfl⟩
  case rest =>
  obtain ⟨rfl, rfl⟩ := hcut
  obtain ⟨e1, e2, e3, e4, e6, e7⟩ := HE.out
  rw [e1] at b1
  rw [e2] at b2
  rw [e3] at b3
  have hS : S ≤ 65535 := by omega
  clear HE e1 e2 e3 e4 b4 b5
  have hspW : (W.alloc (specB K M O S)).drew.heap[W.heap.size]? = some (specB K M O S) := heap_alloc_new W _
  have hbW : Below w.heap.size w (W.alloc (specB K M O S)).drew := (hbA.alloc hbA.size _).drew
  have hresW : (W.alloc (specB K M O S)).drew.heap[w.heap.size]? = some (.cells pk0 142 (0, 0)) := block_on hres ((Below.refl _ _).alloc (Nat.le_refl _) _).drew
  have hWn : w.heap.size ≠ W.heap.size := by have := (Array.getElem?_eq_some_iff.1 hres).1; omega
  generalize hWh : W.heap.size = h at *
  generalize hW1 : (W.alloc (specB K M O S)).drew = W1 at *
  clear hbA hres hW1 hWh
  go_wp2_with fail
  go_cut [5, 6] (fun s5 s6 wc => s5 = .int .i64 (z : Int) ∧ s6 = .int .i64 (i : Int) ∧ ∃ n, wc = W1.drewN n)
  case first =>
    go_quiet (fail)
    go_wp2_with fail
    go_meet
    case rel => exact ⟨by first | rfl | rw [e6], by first | rfl | rw [e7], _, rfl⟩
  case rest =>
  obtain ⟨rfl, rfl, nq, rfl⟩ := hcut
  rw [e6] at b6
  rw [e7] at b7
  clear e6 e7 g0 g1 g2 g3 g4 g5 g6 g7 h0b
  have hspV : (W1.drewN nq).heap[h]? = some (specB K M O S) := hspW
  have hresV : (W1.drewN nq).heap[w.heap.size]? = some (.cells pk0 142 (0, 0)) := hresW
  have hbV : Below w.heap.size w (W1.drewN nq) := hbW.trans ⟨rfl, rfl, rfl, Nat.le_refl _, fun _ _ => rfl⟩
  generalize W1.drewN nq = V at *
  clear hspW hresW hbW
  obtain ⟨c0, c1, c2, c3⟩ := spec_cells hspV
  go_wp2_with fail
  refine (mayb_below K M O S _).mono ?_
  rintro e W2 ⟨rfl, hb2⟩
  have hsp2 := block_on hspV hb2
  have hres2 := block_on hresV hb2
  have hbw2 := hbV.trans (hb2.mono hbV.size)
  clear c0 c1 c2 c3 hspV hresV hbV hb2
  obtain ⟨c0, c1, c2, c3⟩ := spec_cells hsp2
  have hf1 := setRow_heap _ _ _ pk0 _ _ hres2
  have hf2 : Below w.heap.size w (W2.setRow w.heap.size pk0) := ((Chg.of_below hbw2 (fun _ => False)).setRow (Or.inl (Nat.le_refl _)) _).below (fun _ _ f => f)
  have hone := pk_one 0 0 0 0 0 0 ⟨#[]⟩
  have Hf1 := hide hf1
  have Hf2 := hide hf2
  have Hres := hide hres2
  clear hf1 hf2
  have hbz := pk_build0
  by_cases hok : mayB K M O S = true ∧ 1 ≤ z ∧ z ≤ 16 ∧ i < K + M
  · obtain ⟨hm, hz1, hz2, hi⟩ := hok
    have n1 : ¬ (z : Int) < 1 := by omega
    have n2 : ¬ (16 : Int) < (z : Int) := by omega
    have n3 : ¬ (K : Int) + (M : Int) ≤ (i : Int) := by omega
    have hio : ((mayB K M O S = true ∧ 1 ≤ z ∧ z ≤ 16 ∧ i < K + M ∧ p.size = z + 9 ∧ addTo p p.size = 0) ↔ (p.size = z + 9 ∧ addTo p p.size = 0)) := ⟨fun h => h.2.2.2.2, fun h => ⟨hm, hz1, hz2, hi, h⟩⟩
    have Hio := hide hio
    rw [hm]
    clear hio hm
    by_cases hps : p.size = z + 9
    · have hpb : ((p.size : Int) != 8 + (z : Int) + 1) = false := by simp; omega
      have htot : ∀ W, Calls Tryz.prog 114 #[.string p] W fun e w' => e = .returned (.int .u8 ((addTo p p.size).toNat : Int)) ∧ w' = W := fun W => ptotal_any p W (by omega)
      obtain ⟨y, hy⟩ : ∃ y, y = addTo p p.size := ⟨_, rfl⟩
      rw [← hy] at htot
      have HY := hide hy
      have Hps := hide hps
      clear hy
      by_cases hy0 : y = 0
      · have hyb : ((y.toNat : Int) != 0) = false := by rw [hy0]; rfl
        have Hy0 := hide hy0
        clear hy0
        go_upto_region 9 with (first | (refine (htot _).mono ?_; rintro e W3 ⟨rfl, rfl⟩))
        have i8 : (8 : Int) + (z : Int) ≤ (p.size : Int) := by omega
        clear hbz
        have ht : W3.drew.there w.heap.size 0 7 := pk_there Hres.out
        have hst := pk_store w.heap.size K M O S z i (p.extract 8 (8 + z)) W3.drew ht
        have hbu := pk_build K M O S z i (p.extract 8 (8 + z)) W3.drew
        have hr := World.rangeAt_setCells_same W3.drew w.heap.size 0 (pkL K M O S z i (p.extract 8 (8 + z))) ht
        have hend : Below w.heap.size w (W3.drew.setCells w.heap.size 0 (pkL K M O S z i (p.extract 8 (8 + z)))) := pk_below hbw2.drew (Nat.le_refl _) _ _
        have hcs : (pkL K M O S z i (p.extract 8 (8 + z))).toArray = pkC K M O S z i (p.extract 8 (8 + z)) := rfl
        have hlen : (pkL K M O S z i (p.extract 8 (8 + z))).length = 7 := rfl
        generalize pkL K M O S z i (p.extract 8 (8 + z)) = cs at *
        have Hcs := hide hcs
        clear hcs ht hbw2 hres2 hsp2
        go_region
        go_wp2_with fail
        refine bodyPost_ret (v := .tuple #[.agg cs.toArray, .bool true]) ?_ rfl ⟨⟨fun _ => by rw [Hcs.out], fun h => absurd (Hio.out.2 ⟨Hps.out, by rw [← HY.out]; exact Hy0.out⟩) h⟩, hend⟩
        rw [results_cell_tmp Tryz.results91]
        have hl := run_loadVar_mid (P := Tryz.prog) _ w.heap.size 0 142 cs _ hr Tryz.underlying142 rfl (by rw [hlen]; exact Tryz.sizePk)
        simp [asAddr, hl]
      · have hyb : ((y.toNat : Int) != 0) = true := by
          simp only [bne_iff_ne, ne_eq]
          intro e
          exact hy0 (UInt8.toNat_inj.1 (by show y.toNat = 0; omega))
        have hno : ¬ (mayB K M O S = true ∧ 1 ≤ z ∧ z ≤ 16 ∧ i < K + M ∧ p.size = z + 9 ∧ addTo p p.size = 0) := fun h => hy0 (by rw [HY.out]; exact h.2.2.2.2.2)
        have Hno := hide hno
        clear hno hy0
        go_wp2_with fail
        refine (htot _).mono ?_
        rintro e W3 ⟨rfl, rfl⟩
        go_wp2_with (first | (refine wpList_store_row rfl 142 (.tmp 2) (.tmp 72) rfl w.heap.size pk0 rfl rfl 142 pk0 Hres.out Tryz.sizePk rfl hone ?_))
        exact bodyPost_ret (results_pread _ _ w.heap.size 0 0 0 0 0 0 _ _ rfl Hf1.out) rfl ⟨⟨fun h => absurd h Hno.out, fun _ => rfl⟩, Hf2.out⟩
    · have hpb : ((p.size : Int) != 8 + (z : Int) + 1) = true := by simp; omega
      have hno : ¬ (mayB K M O S = true ∧ 1 ≤ z ∧ z ≤ 16 ∧ i < K + M ∧ p.size = z + 9 ∧ addTo p p.size = 0) := fun h => hps h.2.2.2.2.1
      have Hno := hide hno
      clear hno hps
      go_wp2_with (first | (refine wpList_store_row rfl 142 (.tmp 2) (.tmp 72) rfl w.heap.size pk0 rfl rfl 142 pk0 Hres.out Tryz.sizePk rfl hone ?_))
      exact bodyPost_ret (results_pread _ _ w.heap.size 0 0 0 0 0 0 _ _ rfl Hf1.out) rfl ⟨⟨fun h => absurd h Hno.out, fun _ => rfl⟩, Hf2.out⟩
  · have hno : ¬ (mayB K M O S = true ∧ 1 ≤ z ∧ z ≤ 16 ∧ i < K + M ∧ p.size = z + 9 ∧ addTo p p.size = 0) := fun h => hok ⟨h.1, h.2.1, h.2.2.1, h.2.2.2.1⟩
    have Hno := hide hno
    have hor : mayB K M O S = false ∨ (mayB K M O S = true ∧ (z : Int) < 1) ∨ (mayB K M O S = true ∧ ¬ (z : Int) < 1 ∧ (16 : Int) < (z : Int)) ∨ (mayB K M O S = true ∧ ¬ (z : Int) < 1 ∧ ¬ (16 : Int) < (z : Int) ∧ (K : Int) + (M : Int) ≤ (i : Int)) := by
      cases hm : mayB K M O S with
      | false => exact Or.inl rfl
      | true =>
        have : ¬ (1 ≤ z ∧ z ≤ 16 ∧ i < K + M) := fun h => hok ⟨hm, h⟩
        refine Or.inr ?_
        simp only [true_and]
        omega
    clear hno hok
    rcases hor with hm | ⟨hm, h1⟩ | ⟨hm, h1, h2⟩ | ⟨hm, h1, h2, h3⟩
    all_goals
      rw [hm]
      go_wp2_with (first | (refine wpList_store_row rfl 142 (.tmp 2) (.tmp 60) rfl w.heap.size pk0 rfl rfl 142 pk0 Hres.out Tryz.sizePk rfl hone ?_))
      exact bodyPost_ret (results_pread _ _ w.heap.size 0 0 0 0 0 0 _ _ rfl Hf1.out) rfl ⟨⟨fun h => absurd h Hno.out, fun _ => rfl⟩, Hf2.out⟩

end Go.Proofs.YtnjaofkieajnlaaGreat

/- The program's catcher where it lies within a block: its cells; Wants and the box within it. -/
namespace Go.Proofs.YtnjaofkieajnlaaGreat
open Go.RowKit

/-- The cells of the program's catcher. -/
def catCell (tk : Bool) (K M O S z n : Nat) (of : Nat → Nat) (kn : Kn) (i : Nat) : Value :=
  if i = 0 then .bool tk else if i = 1 then .int .i64 (K : Int) else if i = 2 then .int .i64 (M : Int) else if i = 3 then .int .i64 (O : Int) else if i = 4 then .int .i64 (S : Int) else if i = 5 then .int .i64 (z : Int) else boxCell K n z of kn (i - 6)

/-- The cells of a block that has a catcher from place o on. -/
def inCat (o : Nat) (hh : Nat → Value) (tk : Bool) (K M O S z n : Nat) (of : Nat → Nat) (kn : Kn) (i : Nat) : Value := if i < o then hh i else if i < o + 89 then catCell tk K M O S z n of kn (i - o) else hh i

/-- Block p, of Ln cells, has a catcher from place o on; its other cells are hh's. -/
def CatOff (w : World) (p o Ln : Nat) (tt : TypeId) (hh : Nat → Value) (tk : Bool) (K M O S z n : Nat) (of : Nat → Nat) (kn : Kn) : Prop := o + 89 ≤ Ln ∧ w.rowIs p tt Ln (inCat o hh tk K M O S z n of kn)

theorem inCat_in (o : Nat) (hh : Nat → Value) (tk : Bool) (K M O S z n : Nat) (of : Nat → Nat) (kn : Kn) (i : Nat) (hi : i < 89) : inCat o hh tk K M O S z n of kn (o + i) = catCell tk K M O S z n of kn i := by
  unfold inCat
  rw [if_neg (by omega), if_pos (by omega), Nat.add_sub_cancel_left]

theorem inCat_box (o : Nat) (hh : Nat → Value) (tk : Bool) (K M O S z n : Nat) (of : Nat → Nat) (kn : Kn) (i : Nat) : inBox (o + 6) (inCat o hh tk K M O S z n of kn0) K n z of kn i = inCat o hh tk K M O S z n of kn i := by
  unfold inBox
  by_cases h1 : i < o + 6
  · rw [if_pos h1]
    unfold inCat
    by_cases h2 : i < o
    · rw [if_pos h2, if_pos h2]
    · rw [if_neg h2, if_neg h2, if_pos (by omega), if_pos (by omega)]
      unfold catCell
      have : i - o = 0 ∨ i - o = 1 ∨ i - o = 2 ∨ i - o = 3 ∨ i - o = 4 ∨ i - o = 5 := by omega
      rcases this with h | h | h | h | h | h <;> rw [h] <;> rfl
  · rw [if_neg h1]
    by_cases h2 : i < o + 6 + 83
    · rw [if_pos h2]
      unfold inCat catCell
      rw [if_neg (by omega), if_pos (by omega), if_neg (by omega), if_neg (by omega), if_neg (by omega), if_neg (by omega), if_neg (by omega), if_neg (by omega), show i - o - 6 = i - (o + 6) by omega]
    · rw [if_neg h2]
      unfold inCat
      rw [if_neg (by omega), if_neg (by omega), if_neg (by omega), if_neg (by omega)]

namespace CatOff
variable {w w' : World} {p o Ln : Nat} {tt : TypeId} {hh : Nat → Value} {tk : Bool} {K M O S z n : Nat} {of : Nat → Nat} {kn : Kn}

theorem lt (h : CatOff w p o Ln tt hh tk K M O S z n of kn) : p < w.heap.size := World.rowIs.lt h.2

theorem block (h : CatOff w p o Ln tt hh tk K M O S z n of kn) (hb : w'.heap[p]? = w.heap[p]?) : CatOff w' p o Ln tt hh tk K M O S z n of kn := ⟨h.1, World.rowIs.of_block h.2 hb⟩

theorem on (h : CatOff w p o Ln tt hh tk K M O S z n of kn) {m : Nat} (hm : w.heap.size ≤ m) (hb : Below m w w') : CatOff w' p o Ln tt hh tk K M O S z n of kn := h.block (hb.block p (Nat.lt_of_lt_of_le h.lt hm))

theorem box (h : CatOff w p o Ln tt hh tk K M O S z n of kn) : BoxOff w p (o + 6) Ln tt (inCat o hh tk K M O S z n of kn0) K n z of kn :=
  ⟨by have := h.1; omega, World.rowIs.congr h.2 (fun i _ => (inCat_box o hh tk K M O S z n of kn i).symm)⟩

theorem of_box (h : BoxOff w p (o + 6) Ln tt (inCat o hh tk K M O S z n of kn0) K n z of kn) : CatOff w p o Ln tt hh tk K M O S z n of kn :=
  ⟨by have := h.1; omega, World.rowIs.congr h.2 (fun i _ => inCat_box o hh tk K M O S z n of kn i)⟩

theorem cell (h : CatOff w p o Ln tt hh tk K M O S z n of kn) {i : Nat} (hi : i < 89) : w.cell? ⟨p, o + i, none⟩ = some (catCell tk K M O S z n of kn i) := by
  have := World.rowIs.cell h.2 (i := o + i) (by have := h.1; omega)
  rw [inCat_in _ _ _ _ _ _ _ _ _ _ _ _ hi] at this
  exact this

theorem head (h : CatOff w p o Ln tt hh tk K M O S z n of kn) : w.cell? ⟨p, o, none⟩ = some (.bool tk) ∧ w.cell? ⟨p, o + 1, none⟩ = some (.int .i64 (K : Int)) ∧ w.cell? ⟨p, o + 2, none⟩ = some (.int .i64 (M : Int)) ∧ w.cell? ⟨p, o + 3, none⟩ = some (.int .i64 (O : Int)) ∧ w.cell? ⟨p, o + 4, none⟩ = some (.int .i64 (S : Int)) ∧ w.cell? ⟨p, o + 5, none⟩ = some (.int .i64 (z : Int)) :=
  ⟨h.cell (i := 0) (by omega), h.cell (i := 1) (by omega), h.cell (i := 2) (by omega), h.cell (i := 3) (by omega), h.cell (i := 4) (by omega), h.cell (i := 5) (by omega)⟩

theorem frozen (h : CatOff w p o Ln tt hh tk K M O S z n of kn) (i : Nat) : w.frozen? ⟨p, i, none⟩ = false := World.rowIs.frozen h.2 i

theorem there (h : CatOff w p o Ln tt hh tk K M O S z n of kn) : w.there p o 89 := fun j hj => ⟨by rw [h.cell hj]; rfl, h.frozen _⟩

end CatOff

/-- A catcher that has heard nothing. -/
abbrev CatNone (w : World) (p o Ln : Nat) (tt : TypeId) (hh : Nat → Value) : Prop := CatOff w p o Ln tt hh false 0 0 0 0 0 0 (fun _ => 0) kn0

/-- .. and one that has. -/
abbrev CatHas (w : World) (p o Ln : Nat) (tt : TypeId) (hh : Nat → Value) (K M O S z : Nat) (kn : Kn) : Prop := CatOff w p o Ln tt hh true K M O S z (K + M) (ofs K M O S) kn

set_option maxRecDepth 100000 in
set_option maxHeartbeats 4000000 in
theorem pwants_none (p o Ln : Nat) (tt : TypeId) (hh : Nat → Value) (w : World) (hc : CatNone w p o Ln tt hh) :
    Calls Tryz.prog 60 #[.pointer (some ⟨p, o, none⟩)] w fun e w' => e = .returned (.int .i64 (-1)) ∧ w' = w := by
  obtain ⟨c0, _⟩ := hc.head
  clear hc
  go_enter Tryz.func60, Tryz.ntmps60
  go_wp2_with fail
  go_ret
  exact ⟨rfl, rfl⟩

set_option maxRecDepth 100000 in
set_option maxHeartbeats 4000000 in
theorem pwants_has (p o Ln : Nat) (tt : TypeId) (hh : Nat → Value) (K M O S z : Nat) (kn : Kn) (w : World) (hK : K ≤ 20) (hc : CatHas w p o Ln tt hh K M O S z kn) :
    Calls Tryz.prog 60 #[.pointer (some ⟨p, o, none⟩)] w fun e w' => e = .returned (.int .i64 (openK kn K : Int)) ∧ w' = w := by
  obtain ⟨c0, _⟩ := hc.head
  have hn := qneed_any p (o + 6) Ln tt _ K (K + M) z (ofs K M O S) kn w hK hc.box
  clear hc
  generalize openK kn K = nd at *
  go_enter Tryz.func60, Tryz.ntmps60
  go_wp2_with fail
  refine hn.mono ?_
  rintro e w1 ⟨rfl, h1⟩
  obtain rfl := h1.symm
  go_wp2_with fail
  go_ret
  exact ⟨rfl, rfl⟩

end Go.Proofs.YtnjaofkieajnlaaGreat
