/- Texts of the proof, part 8. -/
import Derived.Laws.CopyOwn
import Derived.Lib.AppendStr
import Derived.Test.YtnjaofkieajnlaaGreatAlluptoG6

/- The program's packets: the sum of a text's bytes, and the text of a packet. -/
namespace Go.Proofs.YtnjaofkieajnlaaGreat
open Go.RowKit

/-- The sum of the first k bytes. -/
def addTo (t : ByteArray) : Nat → UInt8
  | 0 => 0
  | k + 1 => addTo t k + byteAt t k

theorem add_u8 (a b : UInt8) : ((a.toNat : Int) + (b.toNat : Int)) % 256 = ((a + b).toNat : Int) := by
  rw [UInt8.toNat_add]
  omega

theorem neg_u8 (a : UInt8) : (-(a.toNat : Int)) % 256 = ((0 - a).toNat : Int) := by
  have h1 := a.toNat_lt
  rw [UInt8.toNat_sub]
  simp
  omega

theorem chk_add (t : ByteArray) (k : Nat) : chkTo t k = 0 - addTo t k := by
  induction k with
  | zero => simp [chkTo, addTo]
  | succ k ih =>
    show chkTo t k - byteAt t k = 0 - (addTo t k + byteAt t k)
    rw [ih]
    apply UInt8.toNat_inj.1
    rw [UInt8.toNat_sub, UInt8.toNat_sub, UInt8.toNat_sub, UInt8.toNat_add]
    have h1 := (addTo t k).toNat_lt
    have h2 := (byteAt t k).toNat_lt
    simp
    omega

set_option maxRecDepth 100000 in
set_option maxHeartbeats 4000000 in
theorem ptotal_any (t : ByteArray) (w : World) (ht : t.size ≤ 1000) :
    Calls Tryz.prog 114 #[.string t] w fun e w' => e = .returned (.int .u8 ((addTo t t.size).toNat : Int)) ∧ w' = w := by
  go_enter Tryz.func114, Tryz.ntmps114
  go_wp2_with fail
  go_loop [3, 4] (fun sv iv => ∃ k : Nat, k ≤ t.size ∧ iv = .int .i64 (k : Int) ∧ sv = .int .u8 ((addTo t k).toNat : Int)) (fun _ iv => t.size - (intOf iv).toNat)
  case atStart => exact ⟨0, Nat.zero_le _, rfl, rfl⟩
  case round =>
    obtain ⟨k, hk, rfl, rfl⟩ := hrel
    by_cases hlt : k < t.size
    · have g2 := byteAt_get t k hlt
      have hsu := add_u8 (addTo t k) (byteAt t k)
      have hnx : addTo t (k + 1) = addTo t k + byteAt t k := rfl
      have Hnx := hide hnx
      have Hsu := hide hsu
      have i1 : (0 : Int) ≤ (k : Int) := by omega
      have i2 : (k : Int) < (t.size : Int) := by omega
      clear hnx hsu
      go_wp2_with fail
      go_round
      case rel => exact ⟨k + 1, by omega, by go_num, by rw [Hnx.out, ← Hsu.out]⟩
      case measure => simp [intOf]; omega
    · have hkk : k = t.size := by omega
      subst hkk
      go_wp2_with fail
      go_ret
      exact ⟨rfl, rfl⟩

/-- A packet's parts as a value. -/
abbrev pkC (K M O S z i : Int) (p : ByteArray) : Array Value := #[.int .i64 K, .int .i64 M, .int .i64 O, .int .i64 S, .int .i64 z, .int .i64 i, .string p]

theorem pk_cells {w : World} {q : Nat} {K M O S z i : Int} {p : ByteArray} {t : TypeId} (h : w.heap[q]? = some (.cells (pkC K M O S z i p) t (0, 0))) :
    w.cell? ⟨q, 0, none⟩ = some (.int .i64 K) ∧ w.cell? ⟨q, 1, none⟩ = some (.int .i64 M) ∧ w.cell? ⟨q, 2, none⟩ = some (.int .i64 O) ∧ w.cell? ⟨q, 3, none⟩ = some (.int .i64 S) ∧ w.cell? ⟨q, 4, none⟩ = some (.int .i64 z) ∧ w.cell? ⟨q, 5, none⟩ = some (.int .i64 i) ∧ w.cell? ⟨q, 6, none⟩ = some (.string p) := by
  refine ⟨?_, ?_, ?_, ?_, ?_, ?_, ?_⟩ <;> rw [cell_of_row _ _ _ _ _ _ h] <;> rfl

theorem bytesV_app (a b : ByteArray) : bytesV (a ++ b) = bytesV a ++ bytesV b := by
  unfold bytesV numsB
  simp

theorem bytesV_str (a : ByteArray) : Go.Lib.strCells a = bytesV a := by
  unfold bytesV numsB Go.Lib.strCells
  rw [List.map_map]; rfl

theorem bytesV_one (a : ByteArray) : ∀ u ∈ bytesV a, u.oneCell' = true := by
  rw [← bytesV_str]; exact Go.Lib.strCells_oneCell a

theorem run_make_byteRow (n : Nat) (hn : n ≤ 1000000) (w : World) : (Instr.makeSlice 106 (.int .i64 0) (.int .i64 (n : Int))).run Tryz.prog w = .ok (.slice (some ⟨w.heap.size, 0, none⟩) 0 n) (w.alloc (.cells (madeCells #[.int .u8 0] n) 5)) := by
  obtain ⟨i, hi, hzz⟩ := Option.map_eq_some_iff.1 Tryz.infoByte
  simp only [Prod.mk.injEq] at hzz
  obtain ⟨hz, hs, hb⟩ := hzz
  have h := run_make (P := Tryz.prog) w 106 5 i (.int .u8 0) Tryz.underlying106 hi hz .i64 .i64 0 (n : Int) (by omega) (by omega) (by rw [hb]; omega) (by omega)
  simp only [Int.toNat_natCast, hs, Nat.mul_one] at h
  exact h

/-- Bytes that the call owns, as a text. -/
theorem conv_own (B : ByteArray) (v : Value) (n base : Nat) (w : World) (h : w.ownsRow base 5 1 v n (bytesV B)) (hn : n = B.size) (h0 : 0 < n) : (convert 106 9 v).run Tryz.prog w = .ok (.string B) w := by
  subst hn
  rcases h.2 with ⟨_, h1⟩ | ⟨g, cap, cur, rfl, _⟩
  · omega
  · have hcell := h.cells (g := g) rfl
    have hcells : ∀ j, j < B.size → w.cell? ⟨g, 0 + j, none⟩ = some (.int .u8 ((numsB B).getD j 0)) := fun j hj => by
      rw [numsB_getD, ← Addr.add_mid]
      exact hcell j _ (bytesV_getElem B j hj)
    have hcv := run_convert_bytes_arg (P := Tryz.prog) w 106 5 Tryz.underlying106 Tryz.underlying5 g 0 B.size cap (numsB B) (numsB_length B) hcells 9 Tryz.underlying9
    rw [strOfNums_numsB] at hcv
    exact hcv

theorem below_own {W W' : World} {base : Nat} {e : TypeId} {size : Nat} {v : Value} {n : Nat} {xs : List Value} {o : Obj} (h : W.ownsRow base e size v n xs) (hg : (W.alloc o).grownBy W' v.ownBlock) (hb : base ≤ W.heap.size) : Below base W W' :=
  (Below.refl base W).grown (grownBy_of_alloc hg) hb (fun k e => (h.lt k e).1)

theorem below_ownS {W W' : World} {base : Nat} {e : TypeId} {size : Nat} {v : Value} {n : Nat} {xs : List Value} (h : W.ownsRow base e size v n xs) (hg : W.grownBy W' v.ownBlock) (hb : base ≤ W.heap.size) : Below base W W' :=
  (Below.refl base W).grown hg hb (fun k e => (h.lt k e).1)

theorem block_low {W W' : World} {base k : Nat} {o : Obj} (h : W.heap[k]? = some o) (hb : Below base W W') (hk : k < base) : W'.heap[k]? = some o := by rw [hb.block k hk]; exact h

/-- Bytes laid in a block, to be appended. -/
theorem byte_news (W : World) (B : ByteArray) (cs : Array Value) (hc : cs.toList = bytesV B) : ∀ j u, (bytesV B)[j]? = some u → (W.alloc (.cells cs 5)).cell? ((⟨W.heap.size, 0, none⟩ : Addr).add j) = some u := by
  rw [← hc]
  exact World.news_of_block (cs := cs) (t := 5) (fr := (0, 0)) (heap_alloc_new W _)

theorem bytesV_len (B : ByteArray) : (bytesV B).length = B.size := by unfold bytesV; rw [List.length_map, numsB_length]

/-- The head of a packet, in its three parts. -/
theorem head_parts (K M O S z i : Nat) (p : ByteArray) : ((ByteArray.mk #[82, UInt8.ofNat K, UInt8.ofNat M, UInt8.ofNat O] ++ ByteArray.mk #[UInt8.ofNat (S % 256), UInt8.ofNat (S / 256)]) ++ ByteArray.mk #[UInt8.ofNat z, UInt8.ofNat i]) ++ p = packT K M O S z i p := by
  unfold packT headB
  congr 1

set_option maxRecDepth 100000 in
set_option maxHeartbeats 8000000 in
theorem ptext_any (K M O S z i : Nat) (p : ByteArray) (w : World) (hK : K ≤ 20) (hM : M ≤ 20) (hO : O ≤ 20) (hS : S ≤ 65535) (hz : z ≤ 255) (hi : i ≤ 255) (hp : p.size ≤ 900) :
    Calls Tryz.prog 120 #[.agg (pkC K M O S z i p)] w fun e w' => e = .returned (.string (packB K M O S z i p)) ∧ Below w.heap.size w w' := by
  obtain ⟨i0, hi0, hz0, hz1, hz2⟩ := info_parts Tryz.infoByte
  have hmk : ∀ w, (Instr.makeSlice 106 (.int .i64 0) (.int .i64 25)).run Tryz.prog w = .ok (.slice (some ⟨w.heap.size, 0, none⟩) 0 25) (w.alloc (.cells (madeCells #[.int .u8 0] 25) 5)) := run_make_byteRow 25 (by omega)
  have hB : packB K M O S z i p = packT K M O S z i p ++ ⟨#[chkTo (packT K M O S z i p) (packT K M O S z i p).size]⟩ := rfl
  rw [hB, chk_add]
  have hts := packT_size K M O S z i p
  have hparts := head_parts K M O S z i p
  have n1 : bytesV ⟨#[82, UInt8.ofNat K, UInt8.ofNat M, UInt8.ofNat O]⟩ = [.int .u8 82, .int .u8 (K : Int), .int .u8 (M : Int), .int .u8 (O : Int)] := by
    show [Value.int .u8 _, Value.int .u8 ((UInt8.ofNat K).toNat : Int), Value.int .u8 ((UInt8.ofNat M).toNat : Int), Value.int .u8 ((UInt8.ofNat O).toNat : Int)] = _
    rw [ofNat_u8 K (by omega), ofNat_u8 M (by omega), ofNat_u8 O (by omega)]; rfl
  have n2 : bytesV ⟨#[UInt8.ofNat (S % 256), UInt8.ofNat (S / 256)]⟩ = [.int .u8 ((S % 256 : Nat) : Int), .int .u8 ((S / 256 : Nat) : Int)] := by
    show [Value.int .u8 ((UInt8.ofNat (S % 256)).toNat : Int), Value.int .u8 ((UInt8.ofNat (S / 256)).toNat : Int)] = _
    rw [ofNat_u8 (S % 256) (by omega), ofNat_u8 (S / 256) (by omega)]
  have n3 : bytesV ⟨#[UInt8.ofNat z, UInt8.ofNat i]⟩ = [.int .u8 (z : Int), .int .u8 (i : Int)] := by
    show [Value.int .u8 ((UInt8.ofNat z).toNat : Int), Value.int .u8 ((UInt8.ofNat i).toNat : Int)] = _
    rw [ofNat_u8 z (by omega), ofNat_u8 i (by omega)]
  have s1 : (ByteArray.mk #[82, UInt8.ofNat K, UInt8.ofNat M, UInt8.ofNat O]).size = 4 := rfl
  have s2 : (ByteArray.mk #[UInt8.ofNat (S % 256), UInt8.ofNat (S / 256)]).size = 2 := rfl
  have s3 : (ByteArray.mk #[UInt8.ofNat z, UInt8.ofNat i]).size = 2 := rfl
  generalize packT K M O S z i p = T at *
  obtain ⟨y, hy⟩ : ∃ y, y = addTo T T.size := ⟨_, rfl⟩
  rw [← hy]
  have HY := hide hy
  clear hy
  generalize ByteArray.mk #[82, UInt8.ofNat K, UInt8.ofNat M, UInt8.ofNat O] = B1 at *
  generalize ByteArray.mk #[UInt8.ofNat (S % 256), UInt8.ofNat (S / 256)] = B2 at *
  generalize ByteArray.mk #[UInt8.ofNat z, UInt8.ofNat i] = B3 at *
  have HP := hide hparts
  have N1 := hide n1
  have N2 := hide n2
  have N3 := hide n3
  clear hparts n1 n2 n3 hB
  go_enter Tryz.func120, Tryz.ntmps120
  go_upto_region 3 with fail
  have hbA : Below w.heap.size w (((w.alloc (.cells (pkC K M O S z i p) 142)).alloc (specB K M O S)).alloc (.cells (madeCells #[.int .u8 0] 25) 5)) := (((Below.refl _ _).alloc (Nat.le_refl _) _).alloc (by simp) _).alloc (by simp; omega) _
  have hpk : (((w.alloc (.cells (pkC K M O S z i p) 142)).alloc (specB K M O S)).alloc (.cells (madeCells #[.int .u8 0] 25) 5)).heap[w.heap.size]? = some (.cells (pkC K M O S z i p) 142 (0, 0)) := by
    rw [heap_alloc_old _ _ (by simp; omega), heap_alloc_old _ _ (by simp)]; exact heap_alloc_new w _
  have hsp : (((w.alloc (.cells (pkC K M O S z i p) 142)).alloc (specB K M O S)).alloc (.cells (madeCells #[.int .u8 0] 25) 5)).heap[w.heap.size + 1]? = some (specB K M O S) := by
    rw [heap_alloc_old _ _ (by simp)]; exact heap_alloc2_new w _ _
  have hown : (((w.alloc (.cells (pkC K M O S z i p) 142)).alloc (specB K M O S)).alloc (.cells (madeCells #[.int .u8 0] 25) 5)).ownsRow (w.heap.size + 2) 5 1 (.slice (some ⟨w.heap.size + 1 + 1, 0, none⟩) 0 25) 0 [] := by
    have := World.ownsRow_made (base := w.heap.size + 2) (e := 5) (size := 1) ((w.alloc (.cells (pkC K M O S z i p) 142)).alloc (specB K M O S)) (madeCells #[.int .u8 0] 25) 25 (by simp) (by unfold maxLen; omega) (by simp [size_madeCells])
    simpa using this
  have hsz : w.heap.size + 2 ≤ (((w.alloc (.cells (pkC K M O S z i p) 142)).alloc (specB K M O S)).alloc (.cells (madeCells #[.int .u8 0] 25) 5)).heap.size := by simp
  generalize ((w.alloc (.cells (pkC K M O S z i p) 142)).alloc (specB K M O S)).alloc (.cells (madeCells #[.int .u8 0] 25) 5) = W at *
  clear hmk
  obtain ⟨c0, c1, c2, c3⟩ := spec_cells hsp
  go_wp2_with (at_builtin; refine wpList_append_lies _ rfl (.tmp 9) (.tmp 19) 106 rfl (w.heap.size + 2) 5 i0 (.int .u8 0) 1 1 Tryz.underlying106 hi0 hz0 hz1 hz2 rfl (by decide) _ _ _ rfl (hown.alloc _) ⟨W.heap.size, 0, none⟩ 4 4 (bytesV B1) rfl (by rw [bytesV_len, s1]) (byte_news W B1 _ (by rw [N1.out])) (bytesV_one B1) (by decide) (by unfold maxLen; omega) (by omega) (by simp; omega) (W.heap.size + 1) (by simp) ?_)
  intro g1 k1 W1 hown1 hgr1 hat1 hlt1
  have hb1 := below_own hown hgr1 hsz
  have hpk1 := block_low hpk hb1 (by omega)
  have hsp1 := block_low hsp hb1 (by omega)
  have hsz1 := Nat.le_trans hsz hb1.size
  have hbA1 := hbA.trans (hb1.mono (by omega))
  have hown1' : W1.ownsRow (w.heap.size + 2) 5 1 (.slice (some ⟨g1, 0, none⟩) 4 k1) 4 (bytesV B1) := hown1
  clear hown hgr1 hat1 hlt1 hpk hsp hbA hb1 c0 c1 c2 c3 hown1 hsz
  obtain ⟨c0, c1, c2, c3⟩ := spec_cells hsp1
  go_wp2_with (at_builtin; refine wpList_append_lies _ rfl (.tmp 21) (.tmp 30) 106 rfl (w.heap.size + 2) 5 i0 (.int .u8 0) 1 1 Tryz.underlying106 hi0 hz0 hz1 hz2 rfl (by decide) _ _ _ rfl (hown1'.alloc _) ⟨W1.heap.size, 0, none⟩ 2 2 (bytesV B2) rfl (by rw [bytesV_len, s2]) (byte_news W1 B2 _ (by rw [N2.out]; rfl)) (bytesV_one B2) (by decide) (by unfold maxLen; omega) (by omega) (by simp; omega) (W1.heap.size + 1) (by simp) ?_)
  intro g2 k2 W2 hown2 hgr2 hat2 hlt2
  have hb2 := below_own hown1' hgr2 hsz1
  have hpk2 := block_low hpk1 hb2 (by omega)
  have hsz2 := Nat.le_trans hsz1 hb2.size
  have hbA2 := hbA1.trans (hb2.mono (by omega))
  have hown2' : W2.ownsRow (w.heap.size + 2) 5 1 (.slice (some ⟨g2, 0, none⟩) 6 k2) 6 (bytesV (B1 ++ B2)) := by rw [bytesV_app]; exact hown2
  clear hown1' hgr2 hat2 hlt2 hpk1 hsp1 hbA1 hb2 c0 c1 c2 c3 hown2 hsz1
  obtain ⟨c0, c1, c2, c3, c4, c5, c6⟩ := pk_cells hpk2
  clear c0 c1 c2 c3
  go_wp2_with (at_builtin; refine wpList_append_lies _ rfl (.tmp 32) (.tmp 39) 106 rfl (w.heap.size + 2) 5 i0 (.int .u8 0) 1 1 Tryz.underlying106 hi0 hz0 hz1 hz2 rfl (by decide) _ _ _ rfl (hown2'.alloc _) ⟨W2.heap.size, 0, none⟩ 2 2 (bytesV B3) rfl (by rw [bytesV_len, s3]) (byte_news W2 B3 _ (by rw [N3.out])) (bytesV_one B3) (by decide) (by unfold maxLen; omega) (by omega) (by simp; omega) (W2.heap.size + 1) (by simp) ?_)
  intro g3 k3 W3 hown3 hgr3 hat3 hlt3
  have hb3 := below_own hown2' hgr3 hsz2
  have hpk3 := block_low hpk2 hb3 (by omega)
  have hsz3 := Nat.le_trans hsz2 hb3.size
  have hbA3 := hbA2.trans (hb3.mono (by omega))
  have hown3' : W3.ownsRow (w.heap.size + 2) 5 1 (.slice (some ⟨g3, 0, none⟩) 8 k3) 8 (bytesV (B1 ++ B2 ++ B3)) := by rw [bytesV_app (B1 ++ B2)]; exact hown3
  clear hown2' hgr3 hat3 hlt3 hpk2 hbA2 hb3 c4 c5 c6 hown3 hsz2
  obtain ⟨c0, c1, c2, c3, c4, c5, c6⟩ := pk_cells hpk3
  clear c0 c1 c2 c3 c4 c5
  go_wp2_with (at_builtin; refine Go.Lib.wpList_append_own_string _ rfl (.tmp 41) (.tmp 43) 106 9 rfl (w.heap.size + 2) 5 i0 Tryz.underlying106 Tryz.underlying9 hi0 hz0 hz1 hz2 _ _ _ rfl hown3' p rfl (by unfold maxLen; omega) (by omega) (by omega) ?_)
  intro v4 W4 hown4 hgr4 hn4
  have hb4 := below_ownS hown3' hgr4 hsz3
  have hsz4 := Nat.le_trans hsz3 hb4.size
  have hbA4 := hbA3.trans (hb4.mono (by omega))
  rw [bytesV_str, ← bytesV_app, HP.out] at hown4
  obtain ⟨g4, k4, rfl, hg4, hgl4⟩ := hown4.form (by omega)
  have hcv4 := conv_own T _ _ _ W4 hown4 (by omega) (by omega)
  have htot : ∀ W, Calls Tryz.prog 114 #[.string T] W fun e w' => e = .returned (.int .u8 ((addTo T T.size).toNat : Int)) ∧ w' = W := fun W => ptotal_any T W (by omega)
  have hng := neg_u8 (addTo T T.size)
  rw [← HY.out] at htot hng
  clear hown3' hgr4 hn4 hbA3 hb4 c6 hsz3 hpk3 HP N1 N2 N3 s1 s2 s3
  go_wp2_with fail
  refine (htot _).mono ?_
  rintro e W5 ⟨rfl, rfl⟩
  clear hcv4 htot
  have n5 : bytesV ⟨#[0 - y]⟩ = [.int .u8 (-((y).toNat : Int) % 256)] := by rw [hng]; rfl
  have s5 : (ByteArray.mk #[0 - y]).size = 1 := rfl
  have hTB : (T ++ ⟨#[0 - y]⟩).size = 8 + p.size + 1 := by rw [ByteArray.size_append, hts]; rfl
  have N5 := hide n5
  obtain ⟨B5, hB5⟩ : ∃ B5, B5 = ByteArray.mk #[0 - y] := ⟨_, rfl⟩
  rw [← hB5] at N5 s5 hTB
  have HB5 := hide hB5
  clear hB5
  clear n5 hng
  go_wp2_with (at_builtin; refine wpList_append_lies _ rfl (.tmp 49) (.tmp 51) 106 rfl (w.heap.size + 2) 5 i0 (.int .u8 0) 1 1 Tryz.underlying106 hi0 hz0 hz1 hz2 rfl (by decide) _ _ _ rfl (hown4.alloc _) ⟨W5.heap.size, 0, none⟩ 1 1 (bytesV B5) rfl (by rw [bytesV_len, s5]) (byte_news W5 B5 _ (by rw [N5.out])) (bytesV_one B5) (by decide) (by unfold maxLen; omega) (by omega) (by simp; omega) (W5.heap.size + 1) (by simp) ?_)
  intro g6 k6 W6 hown6 hgr6 hat6 hlt6
  have hb6 := below_own hown4 hgr6 hsz4
  have hbA6 := hbA4.trans (hb6.mono (by omega))
  rw [← bytesV_app] at hown6
  have hcv6 := conv_own (T ++ B5) _ _ _ W6 hown6 hTB.symm (by omega)
  clear hown4 hgr6 hat6 hlt6 hbA4 hb6 hsz4 hown6 N5
  go_wp2_with fail
  go_ret
  exact ⟨by rw [← HB5.out]; rfl, hbA6⟩

end Go.Proofs.YtnjaofkieajnlaaGreat

/- The program's sum of the pieces of a row. -/
namespace Go.Proofs.YtnjaofkieajnlaaGreat
open Go.RowKit

/-- A byte of a sum that is being made: piece p is added as far as k. -/
def halfByte (t p : ByteArray) (k i : Nat) : UInt8 := if i < k then byteAt t i ^^^ byteAt p i else byteAt t i

theorem halfByte_zero (t p : ByteArray) (i : Nat) : halfByte t p 0 i = byteAt t i := by simp [halfByte]
theorem halfByte_here (t p : ByteArray) (k : Nat) : halfByte t p k k = byteAt t k := by simp [halfByte]
theorem halfByte_all (t p : ByteArray) (h : t.size = p.size) (i : Nat) (hi : i < t.size) : halfByte t p t.size i = byteAt (xorB t p) i := by
  rw [byteAt_xorB h i hi]; simp [halfByte, hi]

/-- A row of bytes, by the index. -/
abbrev byteRow (w : World) (g n : Nat) (f : Nat → UInt8) : Prop := w.rowIs g 5 n (fun i => .int .u8 ((f i).toNat : Int))

theorem byteRow_step {w : World} {g n : Nat} {t p : ByteArray} {k : Nat} (h : byteRow w g n (halfByte t p k)) :
    byteRow (w.setCell ⟨g, k, none⟩ (.int .u8 (((byteAt t k).toNat ^^^ (byteAt p k).toNat : Nat) : Int))) g n (halfByte t p (k + 1)) := by
  refine (h.set k _).congr (fun i _ => ?_)
  by_cases e : i = k
  · subst e
    rw [if_pos rfl, ← toNat_xor]
    simp [halfByte]
  · rw [if_neg e]
    unfold halfByte
    by_cases l : i < k
    · rw [if_pos l, if_pos (show i < k + 1 from by omega)]
    · rw [if_neg l, if_neg (show ¬ i < k + 1 from by omega)]

theorem run_make_bytes (n : Nat) (hn : n ≤ 1000000) (w : World) : (Instr.makeSlice 106 (.int .i64 (n : Int)) (.int .i64 (n : Int))).run Tryz.prog w = .ok (.slice (some ⟨w.heap.size, 0, none⟩) n n) (w.alloc (.cells (madeCells #[.int .u8 0] n) 5)) :=
  run_make_row' (P := Tryz.prog) 106 5 (.int .u8 0) 1 Tryz.underlying106 Tryz.infoByte rfl .i64 .i64 n (by omega) (by omega) w

set_option maxRecDepth 100000 in
set_option maxHeartbeats 4000000 in
theorem sum_any (v rv : Value) (l : List ByteArray) (row : List Nat) (size base : Nat) (w : World) (hr : row.length ≤ 1000000) (hrb : ∀ j ∈ row, j ≤ 1000000) (hs : size ≤ 1000) (hsz : ∀ x ∈ l, x.size = size)
    (hown : w.ownsRow base 3 1 rv row.length (numsV row)) (ht : TextsAt w v l) :
    Calls Tryz.prog 118 #[v, rv, .int .i64 (size : Int)] w fun e w' => e = .returned (.string (sumB l row size)) ∧ Below w.heap.size w w' := by
  obtain ⟨ra, rcap, rfl, hrc⟩ := owns_view hown
  obtain ⟨ao, cap, rfl, hcap, hc⟩ := ht
  have hmk := run_make_bytes size (by omega)
  have HC := hide hc
  have HR := hide hrc
  have HS := hide hsz
  have HB := hide hrb
  clear hc hrc hsz hown hrb
  go_enter Tryz.func118, Tryz.ntmps118
  go_wp2_with fail
  clear hmk
  go_loopw [16] (fun i wr => ∃ k : Nat, k ≤ row.length ∧ i = .int .i64 k ∧ byteRow wr w.heap.size size (byteAt (sumB l (row.take k) size)) ∧ Below w.heap.size w wr) (fun i _ => row.length - (intOf i).toNat)
  case atStart =>
    refine ⟨0, Nat.zero_le _, rfl, (World.rowIs_made w (.int .u8 0) size 5).congr (fun i _ => ?_), (Below.refl _ _).alloc (Nat.le_refl _) _⟩
    show Value.int .u8 0 = .int .u8 ((byteAt (zeroB size) i).toNat : Int)
    rw [byteAt_zeroB]; rfl
  case round =>
    obtain ⟨k, hk, rfl, hrow, hbel⟩ := hrel
    by_cases hlt : k < row.length
    · obtain ⟨qr, rfl, hcr⟩ := HR.out k hlt
      have hj : row.getD k 0 = row[k] := by simp [hlt]
      have hjb : row.getD k 0 ≤ 1000000 := by rw [hj]; exact HB.out _ (List.getElem_mem hlt)
      have hts := sumB_take_succ l row size k hlt
      rw [← hj] at hts
      have hts2 := sumB_size HS.out (row.take k)
      have hcr2 := (hbel.cell (p := ⟨qr, k, none⟩) (block_lt_of_cell hcr)).trans hcr
      clear hj hcr
      generalize row.getD k 0 = j at *
      generalize sumB l (row.take k) size = t at *
      by_cases hjl : j < l.length
      · obtain ⟨q, o, rfl, hq, hpc⟩ := HC.out j hjl
        have hps : (l.getD j ByteArray.empty).size = size := HS.out _ (by rw [List.getD_eq_getElem?_getD, List.getElem?_eq_getElem hjl]; exact List.getElem_mem hjl)
        have hpc2 := (hbel.cell (p := ⟨q, o + j, none⟩) hq).trans hpc
        have hts3 : sumB l (row.take (k + 1)) size = xorB t (l.getD j ByteArray.empty) := by rw [hts]; unfold addAt; rw [if_pos hjl]
        clear hpc hts
        generalize l.getD j ByteArray.empty = p at *
        have Ht := hide hts3
        have Hts := hide hts2
        have Hps := hide hps
        clear hts3 hts2 hps
        have i1 : (0 : Int) ≤ (j : Int) := by omega
        have i2 : (j : Int) < (l.length : Int) := by omega
        have hrow0 : byteRow wr w.heap.size size (halfByte t p 0) := hrow.congr (fun i _ => by rw [halfByte_zero])
        clear hrow
        go_wp2_with fail
        clear hpc2 hcr2
        go_loopw [11] (fun i wr => ∃ n : Nat, n ≤ size ∧ i = .int .i64 n ∧ byteRow wr w.heap.size size (halfByte t p n) ∧ Below w.heap.size w wr) (fun i _ => size - (intOf i).toNat)
        case atStart => exact ⟨0, Nat.zero_le _, rfl, hrow0, hbel⟩
        case round =>
          clear hrow0 hbel
          obtain ⟨n, hn, rfl, hrow, hbel⟩ := hrel
          by_cases hns : n < size
          · have hcell := hrow.cell hns
            have hfrz := hrow.frozen n
            rw [halfByte_here] at hcell
            have hpn : n < p.size := by rw [Hps.out]; exact hns
            have g2 := byteAt_get p n hpn
            have hx := u8_xor_nat (byteAt t n).toNat (byteAt p n).toNat (byteAt t n).toNat_lt (byteAt p n).toNat_lt
            have hnext := byteRow_step hrow
            have hb2 := hbel.setCell (p := ⟨w.heap.size, n, none⟩) (Nat.le_refl _) (.int .u8 (((byteAt t n).toNat ^^^ (byteAt p n).toNat : Nat) : Int))
            have i3 : (0 : Int) ≤ (n : Int) := by omega
            have i4 : (n : Int) < (size : Int) := by omega
            have i5 : (n : Int) < (p.size : Int) := by omega
            clear hrow hbel
            go_wp2_with fail
            go_region
            all_goals
              clear hcell hfrz g2 hx
              go_wp2
              go_roundw
              case rel => exact ⟨n + 1, by omega, by go_num, hnext, hb2.drew⟩
              case measure => simp [intOf]; omega
          · have hnn : n = size := by omega
            subst hnn
            have hnext : byteRow wr w.heap.size n (byteAt (sumB l (row.take (k + 1)) n)) := by
              rw [Ht.out]
              refine hrow.congr (fun i hi => ?_)
              rw [← halfByte_all t p (by rw [Hts.out, Hps.out]) i (by rw [Hts.out]; exact hi), Hts.out]
            clear hrow
            go_wp2
            go_roundw
            case rel => exact ⟨k + 1, by omega, by go_num, hnext, hbel⟩
            case measure => simp [intOf]; omega
      · have hts3 : sumB l (row.take (k + 1)) size = t := by rw [hts]; unfold addAt; rw [if_neg hjl]
        have Ht := hide hts3
        clear hts hts3
        go_wp2
        go_roundw
        case rel => exact ⟨k + 1, by omega, by go_num, by rw [Ht.out]; exact hrow, hbel⟩
        case measure => simp [intOf]; omega
    · have hall : row.take k = row := List.take_of_length_le (by omega)
      rw [hall] at hrow
      have hsz2 := sumB_size HS.out row
      have hc : ∀ i, i < size → wr.cell? ⟨w.heap.size, 0 + i, none⟩ = some (.int .u8 ((numsB (sumB l row size)).getD i 0)) := fun i hi => by
        rw [Nat.zero_add, numsB_getD]; exact hrow.cell hi
      have hcv := run_convert_bytes_arg (P := Tryz.prog) wr 106 5 Tryz.underlying106 Tryz.underlying5 w.heap.size 0 size size (numsB (sumB l row size)) (by rw [numsB_length]; exact hsz2) hc 9 Tryz.underlying9
      rw [strOfNums_numsB] at hcv
      clear hc hrow hall hsz2
      go_wp2
      go_ret
      exact ⟨rfl, hbel⟩

end Go.Proofs.YtnjaofkieajnlaaGreat

/- Whether pieces are of one size that may be: the program's sizeOf and the document's Shaped; and sameTexts. -/
namespace Go.Proofs.YtnjaofkieajnlaaGreat
open Go.RowKit

/-- There are n pieces, all of one size from 1 to 16. -/
def Shaped (l : List ByteArray) (n : Nat) : Prop := l.length = n ∧ ∀ k, k < l.length → (l.getD k ByteArray.empty).size = (l.getD 0 ByteArray.empty).size ∧ 1 ≤ (l.getD k ByteArray.empty).size ∧ (l.getD k ByteArray.empty).size ≤ 16

set_option maxRecDepth 100000 in
set_option maxHeartbeats 2000000 in
theorem sizeOf_any (v : Value) (l : List ByteArray) (n : Nat) (w : World) (hn : 1 ≤ n ∧ n ≤ 1000) (hl : l.length ≤ 8796093022208) (ht : TextsAt w v l) :
    Calls Tryz.prog 117 #[v, .int .i64 (n : Int)] w fun e w' => (∃ r : Nat, e = .returned (.int .i64 (r : Int)) ∧ (Shaped l n → r = (l.getD 0 ByteArray.empty).size ∧ 1 ≤ r ∧ r ≤ 16) ∧ (¬ Shaped l n → r = 0)) ∧ w' = w := by
  obtain ⟨ao, cap, rfl, hcap, hc⟩ := ht
  by_cases hln : l.length = n
  · subst hln
    have hl0 : 0 < l.length := by omega
    obtain ⟨q, o, rfl, hq, hc0⟩ := hc 0 hl0
    have hcells : ∀ k, k < l.length → w.cell? ⟨q, o + k, none⟩ = some (.string (l.getD k ByteArray.empty)) := fun k hk => by
      obtain ⟨q', o', he, _, hcell⟩ := hc k hk
      simp at he
      obtain ⟨rfl, rfl⟩ := he
      exact hcell
    have HC := hide hcells
    have hsh : Hid (Shaped l l.length ↔ ∀ k, k < l.length → (l.getD k ByteArray.empty).size = (l.getD 0 ByteArray.empty).size ∧ 1 ≤ (l.getD k ByteArray.empty).size ∧ (l.getD k ByteArray.empty).size ≤ 16) := hide ⟨fun h => h.2, fun h => ⟨rfl, h⟩⟩
    clear hc hcells
    simp only [Nat.add_zero] at hc0
    generalize hp : l.getD 0 ByteArray.empty = p at *
    have Hp := hide hp
    clear hp
    by_cases h16 : 16 < p.size
    · have hno : ¬ Shaped l l.length := fun h => by have := (hsh.out.1 h) 0 hl0; rw [Hp.out] at this; omega
      have Hno := hide hno
      clear hno
      go_enter Tryz.func117, Tryz.ntmps117
      go_wp2
      go_ret
      exact ⟨⟨0, rfl, fun h => absurd h Hno.out, fun _ => rfl⟩, rfl⟩
    · have h16' : p.size ≤ 16 := by omega
      go_enter Tryz.func117, Tryz.ntmps117
      go_wp2
      clear hc0
      go_loop [24] (fun i => ∃ k : Nat, k ≤ l.length ∧ i = .int .i64 k ∧ ∀ j, j < k → (l.getD j ByteArray.empty).size = p.size) (fun i => l.length - (intOf i).toNat)
      case atStart => exact ⟨0, Nat.zero_le _, rfl, fun j hj => by omega⟩
      case round =>
        obtain ⟨k, hk, rfl, hall⟩ := hrel
        have Hall := hide hall
        clear hall
        by_cases hlt : k < l.length
        · have hcell := HC.out k hlt
          generalize hx : l.getD k ByteArray.empty = x at *
          have Hx := hide hx
          clear hx
          by_cases he : x.size = p.size
          · have hb : ((x.size : Int) != (p.size : Int)) = false := by simp [he]
            have He := hide he
            clear he
            go_wp2
            go_round
            case rel =>
              refine ⟨k + 1, by omega, by go_num, fun j hj => ?_⟩
              by_cases e : j = k
              · subst e; rw [Hx.out]; exact He.out
              · exact Hall.out j (by omega)
            case measure => simp [intOf]; omega
          · have hb : ((x.size : Int) != (p.size : Int)) = true := by simp; omega
            have hno : ¬ Shaped l l.length := fun h => by have := (hsh.out.1 h) k hlt; rw [Hx.out] at this; omega
            have Hno := hide hno
            clear hno he
            go_wp2
            go_ret
            exact ⟨⟨0, rfl, fun h => absurd h Hno.out, fun _ => rfl⟩, rfl⟩
        · have hkl : k = l.length := by omega
          go_wp2
          go_ret
          refine ⟨⟨p.size, rfl, fun h => ?_, fun h => ?_⟩, rfl⟩
          · have := (hsh.out.1 h) 0 hl0
            rw [Hp.out] at this
            exact ⟨rfl, this.2.1, this.2.2⟩
          · by_cases h1 : 1 ≤ p.size
            · exact absurd (hsh.out.2 (fun j hj => by have := Hall.out j (by omega); omega)) h
            · omega
  · have hno : ¬ Shaped l n := fun h => hln h.1
    have hb : ((l.length : Int) != (n : Int)) = true := by simp; omega
    have Hno := hide hno
    clear hno hln hc
    go_enter Tryz.func117, Tryz.ntmps117
    go_wp2
    go_ret
    exact ⟨⟨0, rfl, fun h => absurd h Hno.out, fun _ => rfl⟩, rfl⟩

end Go.Proofs.YtnjaofkieajnlaaGreat

/- The document's Shaped; sameTexts says yes to two lists of the same texts; handed and still. -/
namespace Go.Proofs.YtnjaofkieajnlaaGreat
open Go.RowKit

theorem texts_cells {w : World} {ao : Option Addr} {l : List ByteArray} {q o : Nat} (hc : ∀ k, k < l.length → ∃ q o, ao = some ⟨q, o, none⟩ ∧ q < w.heap.size ∧ w.cell? ⟨q, o + k, none⟩ = some (.string (l.getD k ByteArray.empty))) (he : ao = some ⟨q, o, none⟩) :
    ∀ k, k < l.length → w.cell? ⟨q, o + k, none⟩ = some (.string (l.getD k ByteArray.empty)) := fun k hk => by
  obtain ⟨q', o', he', _, hcell⟩ := hc k hk
  rw [he] at he'
  simp at he'
  obtain ⟨rfl, rfl⟩ := he'
  exact hcell

/-- The answer tells whether p. -/
def Tells (p : Prop) (e : Ending) : Prop := ∃ b, e = .returned (.bool b) ∧ (p → b = true) ∧ (¬ p → b = false)

set_option maxRecDepth 100000 in
set_option maxHeartbeats 2000000 in
theorem shaped_any (v : Value) (l : List ByteArray) (n : Nat) (w : World) (hn : n ≤ 1000) (hl : l.length ≤ 8796093022208) (ht : TextsAt w v l) :
    Calls Tryz.prog 75 #[v, .int .i64 (n : Int)] w fun e w' => Tells (Shaped l n) e ∧ w' = w := by
  obtain ⟨ao, cap, rfl, hcap, hc⟩ := ht
  by_cases hln : l.length = n
  · subst hln
    have hsh : Hid (Shaped l l.length ↔ ∀ k, k < l.length → (l.getD k ByteArray.empty).size = (l.getD 0 ByteArray.empty).size ∧ 1 ≤ (l.getD k ByteArray.empty).size ∧ (l.getD k ByteArray.empty).size ≤ 16) := hide ⟨fun h => h.2, fun h => ⟨rfl, h⟩⟩
    have HC := hide hc
    clear hc
    go_enter Tryz.func75, Tryz.ntmps75
    go_wp2
    go_loop [13] (fun i => ∃ k : Nat, k ≤ l.length ∧ i = .int .i64 k ∧ ∀ j, j < k → (l.getD j ByteArray.empty).size = (l.getD 0 ByteArray.empty).size ∧ 1 ≤ (l.getD j ByteArray.empty).size ∧ (l.getD j ByteArray.empty).size ≤ 16) (fun i => l.length - (intOf i).toNat)
    case atStart => exact ⟨0, Nat.zero_le _, rfl, fun j hj => by omega⟩
    case round =>
      obtain ⟨k, hk, rfl, hall⟩ := hrel
      have Hall := hide hall
      clear hall
      by_cases hlt : k < l.length
      · obtain ⟨q, o, rfl, hq, hcell⟩ := HC.out k hlt
        have hc0 := texts_cells HC.out rfl 0 (by omega)
        simp only [Nat.add_zero] at hc0
        generalize hx : l.getD k ByteArray.empty = x at *
        generalize hp : l.getD 0 ByteArray.empty = p at *
        have Hx := hide hx
        have Hp := hide hp
        clear hx hp
        by_cases hgood : x.size = p.size ∧ 1 ≤ x.size ∧ x.size ≤ 16
        · have hb1 : ((x.size : Int) != (p.size : Int)) = false := by simp; omega
          have hb2 : decide ((x.size : Int) < 1) = false := by simp; omega
          have hb3 : decide ((16 : Int) < (x.size : Int)) = false := by simp; omega
          have Hg := hide hgood
          clear hgood
          go_wp2
          go_round
          case rel =>
            refine ⟨k + 1, by omega, by go_num, fun j hj => ?_⟩
            by_cases e : j = k
            · subst e; rw [Hx.out]; exact Hg.out
            · exact Hall.out j (by omega)
          case measure => simp [intOf]; omega
        · have hno : ¬ Shaped l l.length := fun h => by have := (hsh.out.1 h) k hlt; rw [Hx.out] at this; exact hgood this
          have Hno := hide hno
          have hor : (x.size ≠ p.size) ∨ (x.size = p.size ∧ x.size < 1) ∨ (x.size = p.size ∧ 1 ≤ x.size ∧ 16 < x.size) := by omega
          clear hno hgood
          rcases hor with h1 | ⟨h1, h2⟩ | ⟨h1, h2, h3⟩
          · have hb1 : ((x.size : Int) != (p.size : Int)) = true := by simp; omega
            clear h1
            go_wp2
            go_ret
            exact ⟨⟨false, rfl, fun h => absurd h Hno.out, fun _ => rfl⟩, rfl⟩
          · have hb1 : ((x.size : Int) != (p.size : Int)) = false := by simp; omega
            have hb2 : decide ((x.size : Int) < 1) = true := by simp; omega
            clear h1
            go_wp2
            go_ret
            exact ⟨⟨false, rfl, fun h => absurd h Hno.out, fun _ => rfl⟩, rfl⟩
          · have hb1 : ((x.size : Int) != (p.size : Int)) = false := by simp; omega
            have hb2 : decide ((x.size : Int) < 1) = false := by simp; omega
            clear h1
            go_wp2
            go_ret
            exact ⟨⟨false, rfl, fun h => absurd h Hno.out, fun _ => rfl⟩, rfl⟩
      · go_wp2
        go_ret
        exact ⟨⟨true, rfl, fun _ => rfl, fun h => absurd (hsh.out.2 (fun j hj => Hall.out j (by omega))) h⟩, rfl⟩
  · have hno : ¬ Shaped l n := fun h => hln h.1
    have hb : ((l.length : Int) != (n : Int)) = true := by simp; omega
    have Hno := hide hno
    clear hno hln hc
    go_enter Tryz.func75, Tryz.ntmps75
    go_wp2
    go_ret
    exact ⟨⟨false, rfl, fun h => absurd h Hno.out, fun _ => rfl⟩, rfl⟩

set_option maxRecDepth 100000 in
set_option maxHeartbeats 2000000 in
theorem sameTexts_yes (v1 v2 : Value) (l : List ByteArray) (w : World) (hl : l.length ≤ 8796093022208) (h1 : TextsAt w v1 l) (h2 : TextsAt w v2 l) :
    Calls Tryz.prog 18 #[v1, v2] w fun e w' => e = .returned (.bool true) ∧ Chg (fun _ => False) w w' := by
  obtain ⟨a1, p1, rfl, hp1, hc1⟩ := h1
  obtain ⟨a2, p2, rfl, hp2, hc2⟩ := h2
  have H1 := hide hc1
  have H2 := hide hc2
  clear hc1 hc2
  go_enter Tryz.func18, Tryz.ntmps18
  go_wp2
  go_loopw [13] (fun i wr => ∃ k : Nat, k ≤ l.length ∧ i = .int .i64 k ∧ Chg (fun _ => False) w wr) (fun i _ => l.length - (intOf i).toNat)
  case atStart => exact ⟨0, Nat.zero_le _, rfl, Chg.refl _ _⟩
  case round =>
    obtain ⟨k, hk, rfl, hcg⟩ := hrel
    by_cases hlt : k < l.length
    · obtain ⟨q1, o1, rfl, b1, e1⟩ := H1.out k hlt
      obtain ⟨q2, o2, rfl, b2, e2⟩ := H2.out k hlt
      have e1' := (hcg.cell (a := ⟨q1, o1 + k, none⟩) b1 (fun x => x)).trans e1
      have e2' := (hcg.cell (a := ⟨q2, o2 + k, none⟩) b2 (fun x => x)).trans e2
      clear e1 e2
      generalize l.getD k ByteArray.empty = x at *
      have i1 : (0 : Int) ≤ (k : Int) := by omega
      have i2 : (k : Int) < (l.length : Int) := by omega
      go_wp2_with fail
      go_quiet (fail)
      have hcq := hcg.drewN nq
      clear hcg e1' e2'
      go_wp2
      go_roundw
      case rel => exact ⟨k + 1, by omega, by go_num, hcq⟩
      case measure => simp [intOf]; omega
    · go_wp2
      go_ret
      exact ⟨rfl, hcg⟩

end Go.Proofs.YtnjaofkieajnlaaGreat

/- handed and still: a list that is handed over with eight marks in its spare room, and the look whether it stands as it did. -/
namespace Go.Proofs.YtnjaofkieajnlaaGreat
open Go.RowKit

/-- The mark. -/
abbrev markB : ByteArray := ⟨#[109, 97, 114, 107]⟩

/-- Text i of a list that is being handed over, k marks behind it. -/
def handedAt (l : List ByteArray) (k i : Nat) : ByteArray := if i < l.length then l.getD i ByteArray.empty else if i < l.length + k then markB else ByteArray.empty

theorem handedAt_step (l : List ByteArray) (k i : Nat) : (if i = l.length + k then markB else handedAt l k i) = handedAt l (k + 1) i := by
  unfold handedAt
  by_cases h1 : i < l.length
  · rw [if_neg (by omega), if_pos h1, if_pos h1]
  · rw [if_neg h1, if_neg h1]
    by_cases e : i = l.length + k
    · rw [if_pos e, if_pos (show i < l.length + (k + 1) from by omega)]
    · rw [if_neg e]
      by_cases h2 : i < l.length + k
      · rw [if_pos h2, if_pos (by omega)]
      · rw [if_neg h2, if_neg (by omega)]

theorem handedAt_in (l : List ByteArray) (k i : Nat) (h : i < l.length) : handedAt l k i = l.getD i ByteArray.empty := by simp [handedAt, h]
theorem handedAt_mark (l : List ByteArray) (k i : Nat) (h : i < k) : handedAt l k (l.length + i) = markB := by
  unfold handedAt
  rw [if_neg (by omega), if_pos (by omega)]

/-- A list with eight marks behind it lies in block g. -/
abbrev HandedAt (w : World) (g : Nat) (l : List ByteArray) : Prop := w.rowIs g 9 (l.length + 8) (fun i => .string (handedAt l 8 i))

theorem HandedAt.texts {w : World} {g : Nat} {l : List ByteArray} (h : HandedAt w g l) : TextsAt w (.slice (some ⟨g, 0, none⟩) l.length (l.length + 8)) l :=
  ⟨_, _, rfl, by omega, fun k hk => ⟨g, 0, rfl, h.lt, by rw [Nat.zero_add, h.cell (by omega), handedAt_in l 8 k hk]⟩⟩

theorem splice_row {w : World} {g : Nat} {l : List ByteArray} (h : w.heap[g]? = some (.cells (splice (madeCells #[Value.string ByteArray.empty] (l.length + 8)).toList 0 (l.map Value.string)).toArray 9 (0, 0))) :
    w.rowIs g 9 (l.length + 8) (fun i => .string (handedAt l 0 i)) := by
  refine ⟨_, h, ?_, fun i hi => ?_⟩
  · rw [List.size_toArray, length_splice _ _ _ (by simp [size_madeCells])]; simp [size_madeCells]
  · rw [List.getElem?_toArray]
    unfold splice handedAt
    show _ = some (Value.string (if i < l.length then l.getD i ByteArray.empty else if i < l.length + 0 then markB else ByteArray.empty))
    rw [List.take_zero, List.nil_append, List.getElem?_append]
    by_cases h1 : i < l.length
    · rw [if_pos (by simpa using h1), if_pos h1]
      simp [h1]
    · rw [if_neg (by simpa using h1), if_neg h1, if_neg (by omega)]
      rw [List.getElem?_drop, Array.getElem?_toList]
      have e : 0 + (l.map Value.string).length + (i - (l.map Value.string).length) = i := by simp; omega
      rw [e]
      simp [madeCells, hi, Nat.mod_one]

theorem copy_run (l : List ByteArray) (ao : Option Addr) (cap : Nat) (w : World) (hc : ∀ k, k < l.length → ∃ q o, ao = some ⟨q, o, none⟩ ∧ q < w.heap.size ∧ w.cell? ⟨q, o + k, none⟩ = some (.string (l.getD k ByteArray.empty))) :
    ∃ W1, (∀ ty, (Builtin.copy_ #[27, 27] ty #[.slice (some ⟨w.heap.size, 0, none⟩) (l.length + 8) (l.length + 8), .slice ao l.length cap]).run Tryz.prog (w.alloc (.cells (madeCells #[.string ByteArray.empty] (l.length + 8)) 9)) = .ok (goInt l.length) W1) ∧
      W1.rowIs w.heap.size 9 (l.length + 8) (fun i => .string (handedAt l 0 i)) ∧ Below w.heap.size w W1 := by
  have hsz1 : (Tryz.prog.info? 9).map (·.size) = some 1 := by kernel_rfl
  by_cases h0 : l.length = 0
  · have hl : l = [] := List.eq_nil_of_length_eq_zero h0
    subst hl
    refine ⟨_, fun ty => run_copy_none (P := Tryz.prog) _ 27 27 ty 9 _ ao _ _ _ _ Tryz.underlying27 hsz1 (by simp), ?_, (Below.refl _ _).alloc (Nat.le_refl _) _⟩
    refine (World.rowIs_made w (.string ByteArray.empty) ([].length + 8) 9).congr (fun i _ => ?_)
    simp [handedAt]
  · obtain ⟨q, o, rfl, hq, _⟩ := hc 0 (by omega)
    have hcells := texts_cells hc rfl
    have hrun := fun ty => run_copy_row (P := Tryz.prog) (w.alloc (.cells (madeCells #[.string ByteArray.empty] (l.length + 8)) 9)) 27 27 ty 9 w.heap.size 0 (l.length + 8) (l.length + 8) ⟨q, o, none⟩ l.length cap (madeCells #[.string ByteArray.empty] (l.length + 8)) 9 (l.map Value.string) Tryz.underlying27 hsz1 (heap_alloc_new w _) (by simp) (fun j v hj => by
      have hjl : j < l.length := by have := (List.getElem?_eq_some_iff.1 hj).1; simpa using this
      rw [Addr.add_mid, World.cell?_alloc_lt _ _ _ (by exact hq), hcells j hjl]
      rw [List.getElem?_map, List.getElem?_eq_getElem hjl] at hj
      simp at hj
      subst hj
      simp [hjl]) (by simp [size_madeCells]) (fun v hv => by
      obtain ⟨x, _, rfl⟩ := List.mem_map.1 hv
      rfl)
    simp only [List.length_map] at hrun
    refine ⟨_, hrun, ?_, below_setRow ((Below.refl _ _).alloc (Nat.le_refl _) _) (Nat.le_refl _) _⟩
    refine splice_row ?_
    rw [setRow_heap _ _ _ _ _ _ (heap_alloc_new w _)]
    simp [splice]

set_option maxRecDepth 100000 in
set_option maxHeartbeats 2000000 in
theorem handed_any (v : Value) (l : List ByteArray) (w : World) (hl : l.length ≤ 8796093022208) (ht : TextsAt w v l) :
    Calls Tryz.prog 72 #[v] w fun e w' => ∃ g, e = .returned (.slice (some ⟨g, 0, none⟩) l.length (l.length + 8)) ∧ HandedAt w' g l ∧ w.heap.size ≤ g ∧ Below w.heap.size w w' := by
  obtain ⟨ao, cap, rfl, hcap, hc⟩ := ht
  have hmk : ∀ w, (Instr.makeSlice 27 (.int .i64 ((l.length : Int) + 8)) (.int .i64 ((l.length : Int) + 8))).run Tryz.prog w = .ok (.slice (some ⟨w.heap.size, 0, none⟩) (l.length + 8) (l.length + 8)) (w.alloc (.cells (madeCells #[.string ByteArray.empty] (l.length + 8)) 9)) := fun w => by
    have h := run_make_row' (P := Tryz.prog) 27 9 (.string ByteArray.empty) 16 Tryz.underlying27 Tryz.infoText rfl .i64 .i64 (l.length + 8) (by omega) (by omega) w
    rw [show ((l.length + 8 : Nat) : Int) = (l.length : Int) + 8 from by omega] at h
    exact h
  obtain ⟨W1, hrun, hrow, hbel⟩ := copy_run l ao cap w hc
  clear hc
  have Hb := hide hbel
  have Hr := hide hrow
  clear hbel hrow
  go_enter Tryz.func72, Tryz.ntmps72
  go_wp2
  clear hrun hmk
  go_loopw [14] (fun i wr => ∃ k : Nat, k ≤ 8 ∧ i = .int .i64 k ∧ wr.rowIs w.heap.size 9 (l.length + 8) (fun i => .string (handedAt l k i)) ∧ Below w.heap.size w wr) (fun i _ => 8 - (intOf i).toNat)
  case atStart => exact ⟨0, by omega, rfl, Hr.out, Hb.out⟩
  case round =>
    clear Hr Hb
    obtain ⟨k, hk, rfl, hrow, hbel⟩ := hrel
    by_cases hlt : k < 8
    · have hcell := hrow.cell (show l.length + k < l.length + 8 from by omega)
      have hfrz := hrow.frozen (l.length + k)
      have hnext : (wr.setCell ⟨w.heap.size, l.length + k, none⟩ (.string markB)).rowIs w.heap.size 9 (l.length + 8) (fun i => .string (handedAt l (k + 1) i)) :=
        (hrow.set (l.length + k) (.string markB)).congr (fun i _ => by rw [← handedAt_step]; split <;> rfl)
      have hb2 := hbel.setCell (p := ⟨w.heap.size, l.length + k, none⟩) (Nat.le_refl _) (.string markB)
      clear hrow hbel
      go_wp2
      go_roundw
      case rel => exact ⟨k + 1, by omega, by go_num, hnext, hb2⟩
      case measure => simp [intOf]; omega
    · have hk8 : k = 8 := by omega
      subst hk8
      go_wp2
      go_ret
      exact ⟨_, rfl, hrow, Nat.le_refl _, hbel⟩

set_option maxRecDepth 100000 in
set_option maxHeartbeats 2000000 in
/-- still says yes where the list and its marks stand as they were laid. -/
theorem still_yes (v : Value) (l : List ByteArray) (g : Nat) (w : World) (hl : l.length ≤ 8796093022208) (hh : HandedAt w g l) (ht : TextsAt w v l) :
    Calls Tryz.prog 74 #[.slice (some ⟨g, 0, none⟩) l.length (l.length + 8), v] w fun e w' => e = .returned (.bool true) ∧ Chg (fun _ => False) w w' := by
  obtain ⟨ao, cap, hv, hcap, hc⟩ := ht
  have ht : TextsAt w v l := ⟨ao, cap, hv, hcap, hc⟩
  have HT := hide ht
  have HH := hide hh
  subst hv
  clear hc ht hh
  go_enter Tryz.func74, Tryz.ntmps74
  go_wp2_with fail
  refine (sameTexts_yes _ _ l _ hl HH.out.texts HT.out).mono ?_
  rintro e w1 ⟨rfl, hcg⟩
  have hh1 : HandedAt w1 g l := HH.out.of_block (hcg.block g HH.out.lt (fun x => x))
  have Hcg := hide hcg
  have Hh := hide hh1
  clear hcg hh1 HT HH
  go_wp2
  go_loop [18] (fun i => ∃ k : Nat, k ≤ 8 ∧ i = .int .i64 k) (fun i => 8 - (intOf i).toNat)
  case atStart => exact ⟨0, by omega, rfl⟩
  case round =>
    obtain ⟨k, hk, rfl⟩ := hrel
    by_cases hlt : k < 8
    · have hcell := Hh.out.cell (show l.length + k < l.length + 8 from by omega)
      rw [handedAt_mark l 8 k hlt] at hcell
      go_wp2
      go_round
      case rel => exact ⟨k + 1, by omega, by go_num⟩
      case measure => simp [intOf]; omega
    · go_wp2
      go_ret
      exact ⟨rfl, Hcg.out⟩

end Go.Proofs.YtnjaofkieajnlaaGreat
