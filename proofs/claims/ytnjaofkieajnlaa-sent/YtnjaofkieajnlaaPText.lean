/- The program's packets: the sum of a text's bytes, and the text of a packet. -/
import Derived.Test.YtnjaofkieajnlaaPacket
import Derived.Lib.AppendStr
namespace Go.Proofs.Ytnjaofkieajnlaa
open Go.RowKit

/-- The sum of the first k bytes. -/
def addTo (t : ByteArray) : Nat → UInt8
  | 0 => 0
  | k + 1 => addTo t k + byteAt t k

theorem add_u8 (a b : UInt8) : ((a.toNat : Int) + (b.toNat : Int)) % 256 = ((a + b).toNat : Int) := by
  rw [UInt8.toNat_add]
  omega

theorem neg_u8 (a : UInt8) : (-(a.toNat : Int)) % 256 = ((0 - a).toNat : Int) := by
  have h1 := a.toNat_lt
  rw [UInt8.toNat_sub]
  simp
  omega

theorem chk_add (t : ByteArray) (k : Nat) : chkTo t k = 0 - addTo t k := by
  induction k with
  | zero => simp [chkTo, addTo]
  | succ k ih =>
    show chkTo t k - byteAt t k = 0 - (addTo t k + byteAt t k)
    rw [ih]
    apply UInt8.toNat_inj.1
    rw [UInt8.toNat_sub, UInt8.toNat_sub, UInt8.toNat_sub, UInt8.toNat_add]
    have h1 := (addTo t k).toNat_lt
    have h2 := (byteAt t k).toNat_lt
    simp
    omega

set_option maxRecDepth 100000 in
set_option maxHeartbeats 4000000 in
theorem ptotal_any (t : ByteArray) (w : World) (ht : t.size ≤ 1000) :
    Calls Try.prog 95 #[.string t] w fun e w' => e = .returned (.int .u8 ((addTo t t.size).toNat : Int)) ∧ w' = w := by
  go_enter Try.func95, Try.ntmps95
  go_wp2_with fail
  go_loop [3, 4] (fun sv iv => ∃ k : Nat, k ≤ t.size ∧ iv = .int .i64 (k : Int) ∧ sv = .int .u8 ((addTo t k).toNat : Int)) (fun _ iv => t.size - (intOf iv).toNat)
  case atStart => exact ⟨0, Nat.zero_le _, rfl, rfl⟩
  case round =>
    obtain ⟨k, hk, rfl, rfl⟩ := hrel
    by_cases hlt : k < t.size
    · have g2 := byteAt_get t k hlt
      have hsu := add_u8 (addTo t k) (byteAt t k)
      have hnx : addTo t (k + 1) = addTo t k + byteAt t k := rfl
      have Hnx := hide hnx
      have Hsu := hide hsu
      have i1 : (0 : Int) ≤ (k : Int) := by omega
      have i2 : (k : Int) < (t.size : Int) := by omega
      clear hnx hsu
      go_wp2_with fail
      go_round
      case rel => exact ⟨k + 1, by omega, by go_num, by rw [Hnx.out, ← Hsu.out]⟩
      case measure => simp [intOf]; omega
    · have hkk : k = t.size := by omega
      subst hkk
      go_wp2_with fail
      go_ret
      exact ⟨rfl, rfl⟩

/-- A packet's parts as a value. -/
abbrev pkC (K M O S z i : Int) (p : ByteArray) : Array Value := #[.int .i64 K, .int .i64 M, .int .i64 O, .int .i64 S, .int .i64 z, .int .i64 i, .string p]

theorem pk_cells {w : World} {q : Nat} {K M O S z i : Int} {p : ByteArray} {t : TypeId} (h : w.heap[q]? = some (.cells (pkC K M O S z i p) t (0, 0))) :
    w.cell? ⟨q, 0, none⟩ = some (.int .i64 K) ∧ w.cell? ⟨q, 1, none⟩ = some (.int .i64 M) ∧ w.cell? ⟨q, 2, none⟩ = some (.int .i64 O) ∧ w.cell? ⟨q, 3, none⟩ = some (.int .i64 S) ∧ w.cell? ⟨q, 4, none⟩ = some (.int .i64 z) ∧ w.cell? ⟨q, 5, none⟩ = some (.int .i64 i) ∧ w.cell? ⟨q, 6, none⟩ = some (.string p) := by
  refine ⟨?_, ?_, ?_, ?_, ?_, ?_, ?_⟩ <;> rw [cell_of_row _ _ _ _ _ _ h] <;> rfl

theorem bytesV_app (a b : ByteArray) : bytesV (a ++ b) = bytesV a ++ bytesV b := by
  unfold bytesV numsB
  simp

theorem bytesV_str (a : ByteArray) : Go.Lib.strCells a = bytesV a := by
  unfold bytesV numsB Go.Lib.strCells
  rw [List.map_map]; rfl

theorem bytesV_one (a : ByteArray) : ∀ u ∈ bytesV a, u.oneCell' = true := by
  rw [← bytesV_str]; exact Go.Lib.strCells_oneCell a

theorem run_make_byteRow (n : Nat) (hn : n ≤ 1000000) (w : World) : (Instr.makeSlice 53 (.int .i64 0) (.int .i64 (n : Int))).run Try.prog w = .ok (.slice (some ⟨w.heap.size, 0, none⟩) 0 n) (w.alloc (.cells (madeCells #[.int .u8 0] n) 5)) := by
  obtain ⟨i, hi, hzz⟩ := Option.map_eq_some_iff.1 Try.infoByte
  simp only [Prod.mk.injEq] at hzz
  obtain ⟨hz, hs, hb⟩ := hzz
  have h := run_make (P := Try.prog) w 53 5 i (.int .u8 0) Try.underlying53 hi hz .i64 .i64 0 (n : Int) (by omega) (by omega) (by rw [hb]; omega) (by omega)
  simp only [Int.toNat_natCast, hs, Nat.mul_one] at h
  exact h

/-- Bytes that the call owns, as a text. -/
theorem conv_own (B : ByteArray) (v : Value) (n base : Nat) (w : World) (h : w.ownsRow base 5 1 v n (bytesV B)) (hn : n = B.size) (h0 : 0 < n) : (convert 53 9 v).run Try.prog w = .ok (.string B) w := by
  subst hn
  rcases h.2 with ⟨_, h1⟩ | ⟨g, cap, cur, rfl, _⟩
  · omega
  · have hcell := h.cells (g := g) rfl
    have hcells : ∀ j, j < B.size → w.cell? ⟨g, 0 + j, none⟩ = some (.int .u8 ((numsB B).getD j 0)) := fun j hj => by
      rw [numsB_getD, ← Addr.add_mid]
      exact hcell j _ (bytesV_getElem B j hj)
    have hcv := run_convert_bytes_arg (P := Try.prog) w 53 5 Try.underlying53 Try.underlying5 g 0 B.size cap (numsB B) (numsB_length B) hcells 9 Try.underlying9
    rw [strOfNums_numsB] at hcv
    exact hcv

theorem below_own {W W' : World} {base : Nat} {e : TypeId} {size : Nat} {v : Value} {n : Nat} {xs : List Value} {o : Obj} (h : W.ownsRow base e size v n xs) (hg : (W.alloc o).grownBy W' v.ownBlock) (hb : base ≤ W.heap.size) : Below base W W' :=
  (Below.refl base W).grown (grownBy_of_alloc hg) hb (fun k e => (h.lt k e).1)

theorem below_ownS {W W' : World} {base : Nat} {e : TypeId} {size : Nat} {v : Value} {n : Nat} {xs : List Value} (h : W.ownsRow base e size v n xs) (hg : W.grownBy W' v.ownBlock) (hb : base ≤ W.heap.size) : Below base W W' :=
  (Below.refl base W).grown hg hb (fun k e => (h.lt k e).1)

theorem block_low {W W' : World} {base k : Nat} {o : Obj} (h : W.heap[k]? = some o) (hb : Below base W W') (hk : k < base) : W'.heap[k]? = some o := by rw [hb.block k hk]; exact h

/-- Bytes laid in a block, to be appended. -/
theorem byte_news (W : World) (B : ByteArray) (cs : Array Value) (hc : cs.toList = bytesV B) : ∀ j u, (bytesV B)[j]? = some u → (W.alloc (.cells cs 5)).cell? ((⟨W.heap.size, 0, none⟩ : Addr).add j) = some u := by
  rw [← hc]
  exact World.news_of_block (cs := cs) (t := 5) (fr := (0, 0)) (heap_alloc_new W _)

theorem bytesV_len (B : ByteArray) : (bytesV B).length = B.size := by unfold bytesV; rw [List.length_map, numsB_length]

/-- The head of a packet, in its three parts. -/
theorem head_parts (K M O S z i : Nat) (p : ByteArray) : ((ByteArray.mk #[82, UInt8.ofNat K, UInt8.ofNat M, UInt8.ofNat O] ++ ByteArray.mk #[UInt8.ofNat (S % 256), UInt8.ofNat (S / 256)]) ++ ByteArray.mk #[UInt8.ofNat z, UInt8.ofNat i]) ++ p = packT K M O S z i p := by
  unfold packT headB
  congr 1

set_option maxRecDepth 100000 in
set_option maxHeartbeats 8000000 in
theorem ptext_any (K M O S z i : Nat) (p : ByteArray) (w : World) (hK : K ≤ 20) (hM : M ≤ 20) (hO : O ≤ 20) (hS : S ≤ 65535) (hz : z ≤ 255) (hi : i ≤ 255) (hp : p.size ≤ 900) :
    Calls Try.prog 80 #[.agg (pkC K M O S z i p)] w fun e w' => e = .returned (.string (packB K M O S z i p)) ∧ Below w.heap.size w w' := by
  obtain ⟨i0, hi0, hz0, hz1, hz2⟩ := info_parts Try.infoByte
  have hmk : ∀ w, (Instr.makeSlice 53 (.int .i64 0) (.int .i64 25)).run Try.prog w = .ok (.slice (some ⟨w.heap.size, 0, none⟩) 0 25) (w.alloc (.cells (madeCells #[.int .u8 0] 25) 5)) := run_make_byteRow 25 (by omega)
  have hB : packB K M O S z i p = packT K M O S z i p ++ ⟨#[chkTo (packT K M O S z i p) (packT K M O S z i p).size]⟩ := rfl
  rw [hB, chk_add]
  have hts := packT_size K M O S z i p
  have hparts := head_parts K M O S z i p
  have n1 : bytesV ⟨#[82, UInt8.ofNat K, UInt8.ofNat M, UInt8.ofNat O]⟩ = [.int .u8 82, .int .u8 (K : Int), .int .u8 (M : Int), .int .u8 (O : Int)] := by
    show [Value.int .u8 _, Value.int .u8 ((UInt8.ofNat K).toNat : Int), Value.int .u8 ((UInt8.ofNat M).toNat : Int), Value.int .u8 ((UInt8.ofNat O).toNat : Int)] = _
    rw [ofNat_u8 K (by omega), ofNat_u8 M (by omega), ofNat_u8 O (by omega)]; rfl
  have n2 : bytesV ⟨#[UInt8.ofNat (S % 256), UInt8.ofNat (S / 256)]⟩ = [.int .u8 ((S % 256 : Nat) : Int), .int .u8 ((S / 256 : Nat) : Int)] := by
    show [Value.int .u8 ((UInt8.ofNat (S % 256)).toNat : Int), Value.int .u8 ((UInt8.ofNat (S / 256)).toNat : Int)] = _
    rw [ofNat_u8 (S % 256) (by omega), ofNat_u8 (S / 256) (by omega)]
  have n3 : bytesV ⟨#[UInt8.ofNat z, UInt8.ofNat i]⟩ = [.int .u8 (z : Int), .int .u8 (i : Int)] := by
    show [Value.int .u8 ((UInt8.ofNat z).toNat : Int), Value.int .u8 ((UInt8.ofNat i).toNat : Int)] = _
    rw [ofNat_u8 z (by omega), ofNat_u8 i (by omega)]
  have s1 : (ByteArray.mk #[82, UInt8.ofNat K, UInt8.ofNat M, UInt8.ofNat O]).size = 4 := rfl
  have s2 : (ByteArray.mk #[UInt8.ofNat (S % 256), UInt8.ofNat (S / 256)]).size = 2 := rfl
  have s3 : (ByteArray.mk #[UInt8.ofNat z, UInt8.ofNat i]).size = 2 := rfl
  generalize packT K M O S z i p = T at *
  obtain ⟨y, hy⟩ : ∃ y, y = addTo T T.size := ⟨_, rfl⟩
  rw [← hy]
  have HY := hide hy
  clear hy
  generalize ByteArray.mk #[82, UInt8.ofNat K, UInt8.ofNat M, UInt8.ofNat O] = B1 at *
  generalize ByteArray.mk #[UInt8.ofNat (S % 256), UInt8.ofNat (S / 256)] = B2 at *
  generalize ByteArray.mk #[UInt8.ofNat z, UInt8.ofNat i] = B3 at *
  have HP := hide hparts
  have N1 := hide n1
  have N2 := hide n2
  have N3 := hide n3
  clear hparts n1 n2 n3 hB
  go_enter Try.func80, Try.ntmps80
  go_upto_region 3 with fail
  have hbA : Below w.heap.size w (((w.alloc (.cells (pkC K M O S z i p) 107)).alloc (specB K M O S)).alloc (.cells (madeCells #[.int .u8 0] 25) 5)) := (((Below.refl _ _).alloc (Nat.le_refl _) _).alloc (by simp) _).alloc (by simp; omega) _
  have hpk : (((w.alloc (.cells (pkC K M O S z i p) 107)).alloc (specB K M O S)).alloc (.cells (madeCells #[.int .u8 0] 25) 5)).heap[w.heap.size]? = some (.cells (pkC K M O S z i p) 107 (0, 0)) := by
    rw [heap_alloc_old _ _ (by simp; omega), heap_alloc_old _ _ (by simp)]; exact heap_alloc_new w _
  have hsp : (((w.alloc (.cells (pkC K M O S z i p) 107)).alloc (specB K M O S)).alloc (.cells (madeCells #[.int .u8 0] 25) 5)).heap[w.heap.size + 1]? = some (specB K M O S) := by
    rw [heap_alloc_old _ _ (by simp)]; exact heap_alloc2_new w _ _
  have hown : (((w.alloc (.cells (pkC K M O S z i p) 107)).alloc (specB K M O S)).alloc (.cells (madeCells #[.int .u8 0] 25) 5)).ownsRow (w.heap.size + 2) 5 1 (.slice (some ⟨w.heap.size + 1 + 1, 0, none⟩) 0 25) 0 [] := by
    have := World.ownsRow_made (base := w.heap.size + 2) (e := 5) (size := 1) ((w.alloc (.cells (pkC K M O S z i p) 107)).alloc (specB K M O S)) (madeCells #[.int .u8 0] 25) 25 (by simp) (by unfold maxLen; omega) (by simp [size_madeCells])
    simpa using this
  have hsz : w.heap.size + 2 ≤ (((w.alloc (.cells (pkC K M O S z i p) 107)).alloc (specB K M O S)).alloc (.cells (madeCells #[.int .u8 0] 25) 5)).heap.size := by simp
  generalize ((w.alloc (.cells (pkC K M O S z i p) 107)).alloc (specB K M O S)).alloc (.cells (madeCells #[.int .u8 0] 25) 5) = W at *
  clear hmk
  obtain ⟨c0, c1, c2, c3⟩ := spec_cells hsp
  go_wp2_with (at_builtin; refine wpList_append_lies _ rfl (.tmp 9) (.tmp 19) 53 rfl (w.heap.size + 2) 5 i0 (.int .u8 0) 1 1 Try.underlying53 hi0 hz0 hz1 hz2 rfl (by decide) _ _ _ rfl (hown.alloc _) ⟨W.heap.size, 0, none⟩ 4 4 (bytesV B1) rfl (by rw [bytesV_len, s1]) (byte_news W B1 _ (by rw [N1.out])) (bytesV_one B1) (by decide) (by unfold maxLen; omega) (by omega) (by simp; omega) (W.heap.size + 1) (by simp) ?_)
  intro g1 k1 W1 hown1 hgr1 hat1 hlt1
  have hb1 := below_own hown hgr1 hsz
  have hpk1 := block_low hpk hb1 (by omega)
  have hsp1 := block_low hsp hb1 (by omega)
  have hsz1 := Nat.le_trans hsz hb1.size
  have hbA1 := hbA.trans (hb1.mono (by omega))
  have hown1' : W1.ownsRow (w.heap.size + 2) 5 1 (.slice (some ⟨g1, 0, none⟩) 4 k1) 4 (bytesV B1) := hown1
  clear hown hgr1 hat1 hlt1 hpk hsp hbA hb1 c0 c1 c2 c3 hown1 hsz
  obtain ⟨c0, c1, c2, c3⟩ := spec_cells hsp1
  go_wp2_with (at_builtin; refine wpList_append_lies _ rfl (.tmp 21) (.tmp 30) 53 rfl (w.heap.size + 2) 5 i0 (.int .u8 0) 1 1 Try.underlying53 hi0 hz0 hz1 hz2 rfl (by decide) _ _ _ rfl (hown1'.alloc _) ⟨W1.heap.size, 0, none⟩ 2 2 (bytesV B2) rfl (by rw [bytesV_len, s2]) (byte_news W1 B2 _ (by rw [N2.out]; rfl)) (bytesV_one B2) (by decide) (by unfold maxLen; omega) (by omega) (by simp; omega) (W1.heap.size + 1) (by simp) ?_)
  intro g2 k2 W2 hown2 hgr2 hat2 hlt2
  have hb2 := below_own hown1' hgr2 hsz1
  have hpk2 := block_low hpk1 hb2 (by omega)
  have hsz2 := Nat.le_trans hsz1 hb2.size
  have hbA2 := hbA1.trans (hb2.mono (by omega))
  have hown2' : W2.ownsRow (w.heap.size + 2) 5 1 (.slice (some ⟨g2, 0, none⟩) 6 k2) 6 (bytesV (B1 ++ B2)) := by rw [bytesV_app]; exact hown2
  clear hown1' hgr2 hat2 hlt2 hpk1 hsp1 hbA1 hb2 c0 c1 c2 c3 hown2 hsz1
  obtain ⟨c0, c1, c2, c3, c4, c5, c6⟩ := pk_cells hpk2
  clear c0 c1 c2 c3
  go_wp2_with (at_builtin; refine wpList_append_lies _ rfl (.tmp 32) (.tmp 39) 53 rfl (w.heap.size + 2) 5 i0 (.int .u8 0) 1 1 Try.underlying53 hi0 hz0 hz1 hz2 rfl (by decide) _ _ _ rfl (hown2'.alloc _) ⟨W2.heap.size, 0, none⟩ 2 2 (bytesV B3) rfl (by rw [bytesV_len, s3]) (byte_news W2 B3 _ (by rw [N3.out])) (bytesV_one B3) (by decide) (by unfold maxLen; omega) (by omega) (by simp; omega) (W2.heap.size + 1) (by simp) ?_)
  intro g3 k3 W3 hown3 hgr3 hat3 hlt3
  have hb3 := below_own hown2' hgr3 hsz2
  have hpk3 := block_low hpk2 hb3 (by omega)
  have hsz3 := Nat.le_trans hsz2 hb3.size
  have hbA3 := hbA2.trans (hb3.mono (by omega))
  have hown3' : W3.ownsRow (w.heap.size + 2) 5 1 (.slice (some ⟨g3, 0, none⟩) 8 k3) 8 (bytesV (B1 ++ B2 ++ B3)) := by rw [bytesV_app (B1 ++ B2)]; exact hown3
  clear hown2' hgr3 hat3 hlt3 hpk2 hbA2 hb3 c4 c5 c6 hown3 hsz2
  obtain ⟨c0, c1, c2, c3, c4, c5, c6⟩ := pk_cells hpk3
  clear c0 c1 c2 c3 c4 c5
  go_wp2_with (at_builtin; refine Go.Lib.wpList_append_own_string _ rfl (.tmp 41) (.tmp 43) 53 9 rfl (w.heap.size + 2) 5 i0 Try.underlying53 Try.underlying9 hi0 hz0 hz1 hz2 _ _ _ rfl hown3' p rfl (by unfold maxLen; omega) (by omega) (by omega) ?_)
  intro v4 W4 hown4 hgr4 hn4
  have hb4 := below_ownS hown3' hgr4 hsz3
  have hsz4 := Nat.le_trans hsz3 hb4.size
  have hbA4 := hbA3.trans (hb4.mono (by omega))
  rw [bytesV_str, ← bytesV_app, HP.out] at hown4
  obtain ⟨g4, k4, rfl, hg4, hgl4⟩ := hown4.form (by omega)
  have hcv4 := conv_own T _ _ _ W4 hown4 (by omega) (by omega)
  have htot : ∀ W, Calls Try.prog 95 #[.string T] W fun e w' => e = .returned (.int .u8 ((addTo T T.size).toNat : Int)) ∧ w' = W := fun W => ptotal_any T W (by omega)
  have hng := neg_u8 (addTo T T.size)
  rw [← HY.out] at htot hng
  clear hown3' hgr4 hn4 hbA3 hb4 c6 hsz3 hpk3 HP N1 N2 N3 s1 s2 s3
  go_wp2_with fail
  refine (htot _).mono ?_
  rintro e W5 ⟨rfl, rfl⟩
  clear hcv4 htot
  have n5 : bytesV ⟨#[0 - y]⟩ = [.int .u8 (-((y).toNat : Int) % 256)] := by rw [hng]; rfl
  have s5 : (ByteArray.mk #[0 - y]).size = 1 := rfl
  have hTB : (T ++ ⟨#[0 - y]⟩).size = 8 + p.size + 1 := by rw [ByteArray.size_append, hts]; rfl
  have N5 := hide n5
  obtain ⟨B5, hB5⟩ : ∃ B5, B5 = ByteArray.mk #[0 - y] := ⟨_, rfl⟩
  rw [← hB5] at N5 s5 hTB
  have HB5 := hide hB5
  clear hB5
  clear n5 hng
  go_wp2_with (at_builtin; refine wpList_append_lies _ rfl (.tmp 49) (.tmp 51) 53 rfl (w.heap.size + 2) 5 i0 (.int .u8 0) 1 1 Try.underlying53 hi0 hz0 hz1 hz2 rfl (by decide) _ _ _ rfl (hown4.alloc _) ⟨W5.heap.size, 0, none⟩ 1 1 (bytesV B5) rfl (by rw [bytesV_len, s5]) (byte_news W5 B5 _ (by rw [N5.out])) (bytesV_one B5) (by decide) (by unfold maxLen; omega) (by omega) (by simp; omega) (W5.heap.size + 1) (by simp) ?_)
  intro g6 k6 W6 hown6 hgr6 hat6 hlt6
  have hb6 := below_own hown4 hgr6 hsz4
  have hbA6 := hbA4.trans (hb6.mono (by omega))
  rw [← bytesV_app] at hown6
  have hcv6 := conv_own (T ++ B5) _ _ _ W6 hown6 hTB.symm (by omega)
  clear hown4 hgr6 hat6 hlt6 hbA4 hb6 hsz4 hown6 N5
  go_wp2_with fail
  go_ret
  exact ⟨by rw [← HB5.out]; rfl, hbA6⟩

end Go.Proofs.Ytnjaofkieajnlaa
