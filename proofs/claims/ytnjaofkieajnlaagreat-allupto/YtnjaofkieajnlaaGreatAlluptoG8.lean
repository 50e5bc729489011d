/- Texts of the proof, part 9. -/
import Derived.Test.YtnjaofkieajnlaaGreatAlluptoG0
import Derived.Test.YtnjaofkieajnlaaGreatAlluptoG6
import Derived.Test.YtnjaofkieajnlaaGreatAlluptoG7

/- What the program's Spare does: the spare pieces of the word in new memory, or an error. -/
namespace Go.Proofs.YtnjaofkieajnlaaGreat
open Go.RowKit

/-- Texts as values. -/
def textV (l : List ByteArray) : List Value := l.map Value.string

theorem textV_append (a b : List ByteArray) : textV (a ++ b) = textV a ++ textV b := by simp [textV]
theorem textV_length (l : List ByteArray) : (textV l).length = l.length := by simp [textV]

theorem textV_get (l : List ByteArray) (k : Nat) (h : k < l.length) : (textV l)[k]? = some (.string (l.getD k ByteArray.empty)) := by
  simp [textV, h]

theorem textV_one (l : List ByteArray) : ∀ u ∈ textV l, u.oneCell' = true := fun u hu => by
  obtain ⟨x, _, rfl⟩ := List.mem_map.1 hu
  rfl

/-- A slice of texts that is owned reads as texts. -/
theorem owns_texts {w : World} {base n : Nat} {v : Value} {l : List ByteArray} (h : w.ownsRow base 9 1 v n (textV l)) (hn : n = l.length) : TextsAt w v l := by
  subst hn
  rcases h.2 with ⟨rfl, hn⟩ | ⟨g, cap, cur, rfl, _, hg, hc, _, _, ht⟩
  · have : l = [] := List.eq_nil_of_length_eq_zero hn
    subst this
    exact ⟨none, 0, rfl, Nat.le_refl _, fun k hk => by simp at hk⟩
  · refine ⟨_, cap, rfl, hc, fun k hk => ⟨g, 0, rfl, (Array.getElem?_eq_some_iff.1 hg).1, ?_⟩⟩
    rw [cell_of_row _ _ _ _ _ _ hg, Nat.zero_add]
    have h1 := textV_get l k hk
    rw [← ht, List.getElem?_take] at h1
    rw [if_pos (by omega)] at h1
    simpa using h1

theorem run_make_texts (n : Nat) (hn : n ≤ 1000000) (w : World) : (Instr.makeSlice 27 (.int .i64 0) (.int .i64 (n : Int))).run Tryz.prog w = .ok (.slice (some ⟨w.heap.size, 0, none⟩) 0 n) (w.alloc (.cells (madeCells #[.string ByteArray.empty] n) 9)) := by
  obtain ⟨i, hi, hzz⟩ := Option.map_eq_some_iff.1 Tryz.infoText
  simp only [Prod.mk.injEq] at hzz
  obtain ⟨hz, hs, hb⟩ := hzz
  have h := run_make (P := Tryz.prog) w 27 9 i (.string ByteArray.empty) Tryz.underlying27 hi hz .i64 .i64 0 (n : Int) (by omega) (by omega) (by rw [hb]; omega) (by omega)
  simp only [Int.toNat_natCast, hs, Nat.mul_one] at h
  exact h

/-- The cells of a list of texts, as the law of append asks them. -/
theorem texts_news {w : World} {q o : Nat} {l : List ByteArray} (hc : ∀ k, k < l.length → w.cell? ⟨q, o + k, none⟩ = some (.string (l.getD k ByteArray.empty))) : ∀ j u, (textV l)[j]? = some u → w.cell? ((⟨q, o, none⟩ : Addr).add j) = some u := fun j u hu => by
  have hj : j < l.length := by have := (List.getElem?_eq_some_iff.1 hu).1; rwa [textV_length] at this
  rw [Addr.add_mid, hc j hj]
  rw [textV_get l j hj] at hu
  exact hu

/-- Where word.Spare stands behind i rows. -/
structure SpAt (W wr : World) (K : Nat) (kn : List ByteArray) (i : Nat) (v9 v10 : Value) : Prop where
  known : wr.ownsRow W.heap.size 9 1 v9 (K + i) (textV kn)
  spare : wr.ownsRow W.heap.size 9 1 v10 i (textV (kn.drop K))
  apart : ∀ k, v9.ownBlock = some k → v10.ownBlock ≠ some k
  below : Below W.heap.size W wr

theorem owns_below {w w1 : World} {base : Nat} {e : TypeId} {size : Nat} {v : Value} {n : Nat} {xs : List Value} (h : w.ownsRow base e size v n xs) (hb : Below w.heap.size w w1) : w1.ownsRow base e size v n xs :=
  owns_of_block h (fun k hk => hb.block k (h.lt k hk).2)

theorem SpAt.on {W wr w1 : World} {K i : Nat} {kn : List ByteArray} {v9 v10 : Value} (h : SpAt W wr K kn i v9 v10) (hb : Below wr.heap.size wr w1) : SpAt W w1 K kn i v9 v10 :=
  ⟨owns_below h.known hb, owns_below h.spare hb, h.apart, h.below.trans (hb.mono h.below.size)⟩

/-- Behind the first append the spare pieces are owned as they were. -/
theorem SpAt.mid {W wr w1 : World} {K i : Nat} {kn : List ByteArray} {v9 v10 : Value} {o : Obj} (h : SpAt W wr K kn i v9 v10) (hg : (wr.alloc o).grownBy w1 v9.ownBlock) : w1.ownsRow W.heap.size 9 1 v10 i (textV (kn.drop K)) :=
  owns_of_block h.spare (fun k hk => (grownBy_of_alloc hg).block k (h.spare.lt k hk).2 (fun e => h.apart k e.symm hk))

theorem SpAt.step {W wr w1 w2 : World} {K i g1 g2 c1 c2 n1 n2 : Nat} {kn : List ByteArray} {t : ByteArray} {v9 v10 : Value} {o1 o2 : Obj} {xs1 xs2 : List Value} (h : SpAt W wr K kn i v9 v10) (hkn : kn.length = K + i)
    (hg1 : (wr.alloc o1).grownBy w1 v9.ownBlock) (hw1 : w1.ownsRow W.heap.size 9 1 (.slice (some ⟨g1, 0, none⟩) n1 c1) n1 xs1) (hx1 : xs1 = textV kn ++ [.string t]) (hn1 : n1 = K + i + 1) (ha1 : v9.ownBlock = some g1 ∨ g1 = wr.heap.size + 1)
    (hg2 : (w1.alloc o2).grownBy w2 v10.ownBlock) (hw2 : w2.ownsRow W.heap.size 9 1 (.slice (some ⟨g2, 0, none⟩) n2 c2) n2 xs2) (hx2 : xs2 = textV (kn.drop K) ++ [.string t]) (hn2 : n2 = i + 1) (ha2 : v10.ownBlock = some g2 ∨ g2 = w1.heap.size + 1) :
    SpAt W w2 K (kn ++ [t]) (i + 1) (.slice (some ⟨g1, 0, none⟩) n1 c1) (.slice (some ⟨g2, 0, none⟩) n2 c2) := by
  subst hx1 hn1 hx2 hn2
  have hlt1 := hw1.lt g1 rfl
  have hsz1 := (grownBy_of_alloc hg1).size
  have hne : ∀ k, v10.ownBlock = some k → k ≠ g1 := fun k hk e => by
    subst e
    rcases ha1 with ha1 | ha1
    · exact h.apart k ha1 hk
    · have := (h.spare.lt k hk).2; omega
  have hws := h.below.size
  refine ⟨?_, ?_, ?_, ?_⟩
  · have h2 := owns_of_block (w' := w2) hw1 (fun k hk => (grownBy_of_alloc hg2).block k (hw1.lt k hk).2 (fun e => by
      simp [Value.ownBlock] at hk
      exact hne k e.symm hk.symm))
    rw [textV_append]; exact h2
  · rw [List.drop_append_of_le_length (by omega), textV_append]; exact hw2
  · intro k e1 e2
    simp [Value.ownBlock] at e1 e2
    rcases ha2 with ha2 | ha2
    · exact hne g2 ha2 (by omega)
    · omega
  · exact ((((Chg.of_below h.below (fun _ => False)).alloc _).grown hg1 (fun k e => Or.inl (h.known.lt k e).1)).alloc _ |>.grown hg2 (fun k e => Or.inl (h.spare.lt k e).1)).below (fun _ _ f => f)

theorem Shaped.sizes {l : List ByteArray} {n : Nat} (h : Shaped l n) : ∀ x ∈ l, x.size = (l.getD 0 ByteArray.empty).size := fun x hx => by
  obtain ⟨k, hk, rfl⟩ := List.mem_iff_getElem.1 hx
  have := (h.2 k hk).1
  rwa [List.getD_eq_getElem?_getD, List.getElem?_eq_getElem hk] at this

set_option maxRecDepth 100000 in
set_option maxHeartbeats 4000000 in
theorem wspare_ok (K M O S : Nat) (v : Value) (l : List ByteArray) (w : World) (hK : 1 ≤ K ∧ K ≤ 20) (hM : 1 ≤ M ∧ M ≤ 20) (hO : 1 ≤ O ∧ O ≤ M) (hS : S ≤ 65535) (hsh : Shaped l K) (ht : TextsAt w v l) :
    Calls Tryz.prog 104 #[specV K M O S, v] w fun e w' => ∃ v', e = .returned (.tuple #[v', .int .i64 0]) ∧ w'.ownsRow w.heap.size 9 1 v' M (textV (sparesOf K M O S l (l.getD 0 ByteArray.empty).size)) ∧ Below w.heap.size w w' := by
  have hlK := hsh.1
  have HT := hide ht
  have Hsh := hide hsh
  obtain ⟨ao, cap, rfl, hcap, hc⟩ := ht
  obtain ⟨q, o, rfl, hq, _⟩ := hc 0 (by omega)
  have hcells := texts_cells hc rfl
  have HC := hide hcells
  clear hsh hc hcells
  subst hlK
  have hmk1 : ∀ w, (Instr.makeSlice 27 (.int .i64 0) (.int .i64 ((l.length : Int) + (M : Int)))).run Tryz.prog w = .ok (.slice (some ⟨w.heap.size, 0, none⟩) 0 (l.length + M)) (w.alloc (.cells (madeCells #[.string ByteArray.empty] (l.length + M)) 9)) := fun w => by
    have h := run_make_texts (l.length + M) (by omega) w
    rw [show ((l.length + M : Nat) : Int) = (l.length : Int) + (M : Int) from by omega] at h
    exact h
  have hmk2 := run_make_texts M (by omega)
  obtain ⟨i0, hi, hz0, hz1, hz2⟩ := info_parts Tryz.infoText
  go_enter Tryz.func104, Tryz.ntmps104
  go_wp2_with fail
  refine (wrows_ok l.length M O S _ hK hM hO hS).mono ?_
  rintro e w1 ⟨g, rv, rfl, hr, hg, hb⟩
  have hs1 := block_on (heap_alloc_new w _) hb
  have hb1 : Below w.heap.size w w1 := ((Below.refl _ _).alloc (Nat.le_refl _) _).trans (hb.mono (by simp))
  simp only [World.size_alloc] at hg
  obtain ⟨c0, c1, c2, c3⟩ := spec_cellsI hs1
  clear hb
  go_wp2_with fail
  refine (sizeOf_any _ l l.length _ (by omega) (by omega) (HT.out.on hb1)).mono ?_
  rintro e w2 ⟨⟨r, rfl, hyes, _⟩, rfl⟩
  obtain ⟨hre, hr1, hr16⟩ := hyes Hsh.out
  have Hre := hide hre
  clear hyes hre
  have hc2 : ∀ k, k < l.length → (w2.alloc (.cells (madeCells #[.string ByteArray.empty] (l.length + M)) 9)).cell? ⟨q, o + k, none⟩ = some (.string (l.getD k ByteArray.empty)) := fun k hk => by
    rw [World.cell?_alloc_lt _ _ _ (by have := hb1.size; show q < _; omega), hb1.cell (p := ⟨q, o + k, none⟩) hq]; exact HC.out k hk
  have HN := hide (texts_news hc2)
  clear hc2
  have hr0 : ((r : Int) == 0) = false := by simp; omega
  have hm1 := World.ownsRow_made (base := w2.heap.size) (e := 9) (size := 1) w2 (madeCells #[.string ByteArray.empty] (l.length + M)) (l.length + M) (Nat.le_refl _) (by unfold maxLen; omega) (by simp [size_madeCells])
  go_wp2_with (at_builtin; refine wpList_append_lies _ rfl (.tmp 34) (.tmp 35) 27 rfl w2.heap.size 9 i0 (.string ByteArray.empty) 1 16 Tryz.underlying27 hi hz0 hz1 hz2 rfl (by decide) _ _ _ rfl hm1 ⟨q, o, none⟩ l.length cap (textV l) rfl (by rw [textV_length]; omega) HN.out (textV_one l) (by omega) (by unfold maxLen; omega) (by omega) (by simp) (w2.heap.size + 1) (by simp) ?_)
  intro g9 cap9 w3 hown9 hgr9 hat9 hlt9
  have hb3 : Below w2.heap.size w2 w3 := ((Below.refl _ _).alloc (Nat.le_refl _) _).grown hgr9 (by simp) (fun k e => by simp [Value.ownBlock] at e; omega)
  have hs3 := block_on hs1 hb3
  have hr3 := hr.below hb3
  have hsz3 := hb3.size
  clear c0 c1 c2 c3 hm1 hgr9 hat9 hs1
  obtain ⟨c0, c1, c2, c3⟩ := spec_cellsI hs3
  have hst : SpAt w2 (w3.alloc (.cells (madeCells #[.string ByteArray.empty] M) 9)) l.length (knownTo l (rowOf l.length M O S) r 0) 0 (.slice (some ⟨g9, 0, none⟩) l.length cap9) (.slice (some ⟨w3.heap.size, 0, none⟩) 0 M) := by
    refine ⟨hown9.alloc _, ?_, fun k e => ?_, hb3.alloc hsz3 _⟩
    · simp only [knownTo, List.drop_length]
      exact World.ownsRow_made w3 _ M hsz3 (by unfold maxLen; omega) (by simp [size_madeCells])
    · simp [Value.ownBlock] at e ⊢
      omega
  clear hown9
  go_wp2_with fail
  clear c0 c1 c2 c3 hs3 hmk1 hmk2
  go_loopw [9, 10, 42] (fun v9 v10 t wr => ∃ i : Nat, i ≤ M ∧ t = .int .i64 i ∧ SpAt w2 wr l.length (knownTo l (rowOf l.length M O S) r i) i v9 v10) (fun _ _ t _ => M - (intOf t).toNat)
  case atStart => exact ⟨0, Nat.zero_le _, rfl, hst⟩
  case round =>
    clear hst
    obtain ⟨i, hiM, rfl, hst⟩ := hrel
    by_cases hlt : i < M
    · have hrr := hr.below hst.below
      have hrc := hrr.cell hlt
      have hrl := rowOf_len l.length M O S i
      have hkl := knownTo_length l (rowOf l.length M O S) r i
      go_wp2_with fail
      refine (sum_any _ (rv i) (knownTo l (rowOf l.length M O S) r i) (rowOf l.length M O S i) r _ _ (by omega) (fun j hj => by have := rowOf_lt l.length M O S i j hj; omega) (by omega) (knownTo_size (fun x hx => ?hx) i) (hrr.own i hlt) (owns_texts hst.known hkl.symm)).mono ?_
      case hx => rw [Hre.out]; exact Hsh.out.sizes x hx
      rintro e w4 ⟨rfl, hb4⟩
      have hst4 := hst.on hb4
      have hks : knownTo l (rowOf l.length M O S) r (i + 1) = knownTo l (rowOf l.length M O S) r i ++ [sumB (knownTo l (rowOf l.length M O S) r i) (rowOf l.length M O S i) r] := rfl
      have Hks := hide hks
      generalize hkn : knownTo l (rowOf l.length M O S) r i = kn at *
      generalize htt : sumB kn (rowOf l.length M O S i) r = tt at *
      have hw4 := hst4.below.size
      have hkw := hst4.known
      clear hst hb4 hrr hrc hks hkn htt
      go_wp2_with (first | (at_builtin; refine wpList_append_lies _ rfl (.tmp 50) (.tmp 52) 27 rfl w2.heap.size 9 i0 (.string ByteArray.empty) 1 16 Tryz.underlying27 hi hz0 hz1 hz2 rfl (by decide) _ _ _ rfl (hkw.alloc _) ⟨w4.heap.size, 0, none⟩ 1 1 [.string tt] rfl rfl (one_news _ _ _) (one_oneCell rfl) (by decide) (by unfold maxLen; omega) (by omega) (by simp; omega) (w4.heap.size + 1) (by simp) ?_))
      intro g5 cap5 w5 hown5 hgr5 hat5 hlt5
      have hsp5 := hst4.mid hgr5
      have hw5 : w2.heap.size ≤ w5.heap.size := by have := (grownBy_of_alloc hgr5).size; omega
      go_wp2_with (first | (at_builtin; refine wpList_append_lies _ rfl (.tmp 54) (.tmp 56) 27 rfl w2.heap.size 9 i0 (.string ByteArray.empty) 1 16 Tryz.underlying27 hi hz0 hz1 hz2 rfl (by decide) _ _ _ rfl (hsp5.alloc _) ⟨w5.heap.size, 0, none⟩ 1 1 [.string tt] rfl rfl (one_news _ _ _) (one_oneCell rfl) (by decide) (by unfold maxLen; omega) (by omega) (by simp; omega) (w5.heap.size + 1) (by simp) ?_))
      intro g6 cap6 w6 hown6 hgr6 hat6 hlt6
      have hnext := hst4.step hkl hgr5 hown5 rfl rfl hat5 hgr6 hown6 rfl rfl hat6
      clear hst4 hkw hown5 hgr5 hat5 hsp5 hown6 hgr6 hat6
      go_wp2
      go_roundw
      case rel => exact ⟨i + 1, by omega, by go_num, by rw [Hks.out]; exact hnext⟩
      case measure => simp [intOf]; omega
    · have hiM2 : i = M := by omega
      subst hiM2
      have hres : wr.ownsRow w.heap.size 9 1 u10 i (textV (sparesOf l.length i O S l (l.getD 0 ByteArray.empty).size)) := by
        have h1 := hst.spare
        rw [Hre.out] at h1
        exact owns_base h1 (fun k e => by have := (h1.lt k e).1; have := hb1.size; omega)
      have hbf := hb1.trans (hst.below.mono hb1.size)
      clear hst
      go_wp2
      go_ret2
      exact ⟨_, rfl, hres, hbf⟩

end Go.Proofs.YtnjaofkieajnlaaGreat

/- The document's own data of an object. -/
namespace Go.Proofs.YtnjaofkieajnlaaGreat
open Go.RowKit

/-- The two bytes of a length. -/
def lenB (n : Nat) : ByteArray := ⟨#[UInt8.ofNat (n % 256), UInt8.ofNat (n / 256)]⟩

theorem numsB_len (n : Nat) (h : n ≤ 65535) : numsB (lenB n) = [((n % 256 : Nat) : Int), ((n / 256 : Nat) : Int)] := by
  show [((UInt8.ofNat (n % 256)).toNat : Int), ((UInt8.ofNat (n / 256)).toNat : Int)] = _
  rw [ofNat_u8 (n % 256) (by omega), ofNat_u8 (n / 256) (by omega)]

/-- The text of an object's data, for N bytes. -/
def objT (N : Nat) (o : ByteArray) : ByteArray := lenB o.size ++ o ++ zeroB (N - (2 + o.size))

/-- The pieces of a text. -/
def cutTo (t : ByteArray) (z : Nat) : Nat → List ByteArray
  | 0 => []
  | j + 1 => cutTo t z j ++ [t.extract (j * z) (j * z + z)]

theorem cutTo_length (t : ByteArray) (z j : Nat) : (cutTo t z j).length = j := by
  induction j with
  | zero => rfl
  | succ j ih => show (cutTo t z j ++ [_]).length = _; rw [List.length_append, ih]; rfl

/-- How long a text is. -/
def lenV (v : Value) : Nat := match v with
  | .string b => b.size
  | _ => 0

theorem pad_succ (t : ByteArray) (k : Nat) : t ++ zeroB k ++ ⟨#[0]⟩ = t ++ zeroB (k + 1) := by
  rw [ByteArray.append_assoc, zeroB_succ]

set_option maxRecDepth 100000 in
set_option maxHeartbeats 8000000 in
theorem data_any (M O S : Int) (K z N : Nat) (o : ByteArray) (w : World) (hz : 1 ≤ z ∧ z ≤ 16) (hK : K ≤ 20) (hN : N = K * z) (ho : o.size + 2 ≤ N) :
    Calls Tryz.prog 107 #[specV K M O S, .int .i64 (z : Int), .string o] w fun e w' => ∃ v, e = .returned v ∧ w'.ownsRow w.heap.size 9 1 v K (textV (cutTo (objT N o) z K)) ∧ Below w.heap.size w w' := by
  have hN2 : N ≤ 320 := by rw [hN]; exact Nat.le_trans (Nat.mul_le_mul hK hz.2) (by decide)
  have hlow := low_byte o.size (by omega)
  have hmul : (K : Int) * (z : Int) = (N : Int) := by rw [hN]; simp
  have hm1 : 0 ≤ (K : Int) * (z : Int) := by rw [hmul]; omega
  have hm2 : (K : Int) * (z : Int) ≤ 320 := by rw [hmul]; omega
  have hcv := conv_block (lenB o.size) (w.heap.size + 1) #[.int .u8 (bits BinOp.and IntKind.i64 (o.size : Int) 255 % 256), .int .u8 ((o.size : Int) / 256)] ((w.alloc (.cells #[.int .i64 (K : Int), .int .i64 M, .int .i64 O, .int .i64 S] 25)).alloc (.cells #[.int .u8 (bits BinOp.and IntKind.i64 (o.size : Int) 255 % 256), .int .u8 ((o.size : Int) / 256)] 5)) (heap_alloc2p w _ _) (by rw [numsB_len o.size (by omega), hlow]; rfl)
  have hcv' : (convert 106 9 (.slice (some ⟨w.heap.size + 1, 0, none⟩) 2 2)).run Tryz.prog ((w.alloc (.cells #[.int .i64 (K : Int), .int .i64 M, .int .i64 O, .int .i64 S] 25)).alloc (.cells #[.int .u8 (bits BinOp.and IntKind.i64 (o.size : Int) 255 % 256), .int .u8 ((o.size : Int) / 256)] 5)) = .ok (.string (lenB o.size)) _ := hcv
  have hls : (lenB o.size).size = 2 := rfl
  obtain ⟨j0, gi, gz0, gz1, gz2⟩ := info_parts Tryz.infoText
  clear hcv hlow
  have hob : objT N o = lenB o.size ++ o ++ zeroB (N - (2 + o.size)) := rfl
  have hos : (objT N o).size = N := by rw [hob, ByteArray.size_append, ByteArray.size_append, zeroB_size]; show 2 + o.size + (N - (2 + o.size)) = N; omega
  generalize lenB o.size = lb at *
  generalize objT N o = T at *
  have HO := hide hob
  have hsp : ((w.alloc (.cells #[.int .i64 (K : Int), .int .i64 M, .int .i64 O, .int .i64 S] 25)).alloc (.cells #[.int .u8 (bits BinOp.and IntKind.i64 (o.size : Int) 255 % 256), .int .u8 ((o.size : Int) / 256)] 5)).cell? ⟨w.heap.size, 0, none⟩ = some (.int .i64 (K : Int)) := by
    rw [World.cell?_alloc_lt _ _ _ (by simp), cell_of_row _ _ _ _ _ _ (heap_alloc_new w _)]; rfl
  have hbA : Below w.heap.size w ((w.alloc (.cells #[.int .i64 (K : Int), .int .i64 M, .int .i64 O, .int .i64 S] 25)).alloc (.cells #[.int .u8 (bits BinOp.and IntKind.i64 (o.size : Int) 255 % 256), .int .u8 ((o.size : Int) / 256)] 5)) := ((Below.refl _ _).alloc (Nat.le_refl _) _).alloc (by simp) _
  clear hob
  go_enter Tryz.func107, Tryz.ntmps107
  go_wp2_with fail
  clear hcv'
  generalize (w.alloc (.cells #[.int .i64 (K : Int), .int .i64 M, .int .i64 O, .int .i64 S] 25)).alloc (.cells #[.int .u8 (bits BinOp.and IntKind.i64 (o.size : Int) 255 % 256), .int .u8 ((o.size : Int) / 256)] 5) = W at *
  have hts : (lb ++ o).size = 2 + o.size := by rw [ByteArray.size_append, hls]
  generalize lb ++ o = t0 at *
  have HM := hide hmul
  have HN := hide hN
  clear hmul hN
  go_loop [8] (fun tv => ∃ k : Nat, 2 + o.size + k ≤ N ∧ tv = .string (t0 ++ zeroB k)) (fun tv => N - lenV tv)
  case atStart => exact ⟨0, by omega, by rw [show zeroB 0 = ByteArray.empty from rfl, ByteArray.append_empty]⟩
  case round =>
    obtain ⟨k, hk1, rfl⟩ := hrel
    have hps := pad_succ t0 k
    have hsk : (t0 ++ zeroB k).size = 2 + o.size + k := by rw [ByteArray.size_append, hts, zeroB_size]
    have hsk1 : (t0 ++ zeroB (k + 1)).size = 2 + o.size + k + 1 := by rw [ByteArray.size_append, hts, zeroB_size]; omega
    have Hps := hide hps
    clear hps
    by_cases hlt : 2 + o.size + k < N
    · have hc1 : ((2 : Int) + (o.size : Int) + (k : Int)) < (K : Int) * (z : Int) := by rw [HM.out]; omega
      generalize t0 ++ zeroB k = tk at *
      go_wp2_with fail
      go_round
      case rel => exact ⟨k + 1, by omega, by rw [Hps.out]⟩
      case measure =>
        show N - (tk ++ ⟨#[0]⟩).size < N - tk.size
        rw [ByteArray.size_append, hsk]
        show N - (2 + o.size + k + 1) < N - (2 + o.size + k)
        omega
    · have hc1 : ¬ ((2 : Int) + (o.size : Int) + (k : Int)) < (K : Int) * (z : Int) := by rw [HM.out]; omega
      have hkN : k = N - (2 + o.size) := by omega
      have hT : t0 ++ zeroB k = T := by rw [hkN]; exact HO.out.symm
      rw [hT]
      rw [hT] at hsk
      clear HO hT hsk1 Hps hkN
      go_wp2_with fail
      go_loopw [8, 9] (fun tv ov wr => ∃ (j m : Nat), j ≤ K ∧ m = j * z ∧ tv = .string (T.extract m N) ∧ wr.ownsRow w.heap.size 9 1 ov j (textV (cutTo T z j)) ∧ Below w.heap.size w wr) (fun tv _ _ => lenV tv)
      case atStart => exact ⟨0, 0, Nat.zero_le _, by simp, by rw [← hos, ByteArray.extract_zero_size], World.ownsRow_nil _ _ _ _, hbA⟩
      case round =>
        obtain ⟨j, m, hj, hm, rfl, hown, hbw⟩ := hrel
        have hmN : m ≤ N := by rw [hm, HN.out]; exact Nat.mul_le_mul_right z hj
        have hms : (T.extract m N).size = N - m := by rw [ByteArray.size_extract]; omega
        by_cases hjK : j < K
        · have hmz : m + z ≤ N := by rw [hm, HN.out, ← Nat.succ_mul]; exact Nat.mul_le_mul_right z hjK
          have hm2 : m + z = (j + 1) * z := by rw [hm, Nat.succ_mul]
          have e1 : (T.extract m N).extract 0 z = T.extract m (m + z) := by rw [ByteArray.extract_extract]; congr 1; omega
          have e2 : (T.extract m N).extract z (N - m) = T.extract (m + z) N := by rw [ByteArray.extract_extract]; congr 1; omega
          have hcut : cutTo T z (j + 1) = cutTo T z j ++ [T.extract m (m + z)] := by rw [hm]; rfl
          have hes : (T.extract (m + z) N).size = N - (m + z) := by rw [ByteArray.size_extract]; omega
          have H1 := hide e1
          have H2 := hide e2
          have H3 := hide hcut
          have H4 := hide hm2
          clear e1 e2 hcut hm2 hm
          generalize T.extract m N = tm at *
          have hwsz := hbw.size
          go_wp2_with (at_builtin; refine wpList_append_lies _ rfl (.tmp 34) (.tmp 38) 27 rfl w.heap.size 9 j0 (.string ByteArray.empty) 1 16 Tryz.underlying27 gi gz0 gz1 gz2 rfl (by decide) _ _ _ rfl (hown.alloc _) ⟨wr.heap.size, 0, none⟩ 1 1 [.string (tm.extract 0 z)] rfl rfl (one_news _ _ _) (one_oneCell rfl) (by decide) (by unfold maxLen; omega) (by omega) (by simp; omega) (wr.heap.size + 1) (by simp) ?_)
          intro g cap w2 hown2 hgr2 hat2 hlt2
          have hb2 : Below w.heap.size w w2 := hbw.grown (grownBy_of_alloc hgr2) hbw.size (fun k e => (hown.lt k e).1)
          rw [H1.out] at hown2
          have hown3 : w2.ownsRow w.heap.size 9 1 (.slice (some ⟨g, 0, none⟩) (j + 1) cap) (j + 1) (textV (cutTo T z (j + 1))) := by rw [H3.out, textV_append]; exact hown2
          clear hown2 hgr2 hat2 hown
          go_wp2_with fail
          go_roundw
          case rel => exact ⟨j + 1, m + z, by omega, H4.out, by rw [← H2.out], hown3, hb2⟩
          case measure =>
            show (tm.extract z (N - m)).size < tm.size
            rw [ByteArray.size_extract, hms]
            omega
        · have hjj : j = K := by omega
          have hmm : m = N := by rw [hm, hjj, HN.out]
          subst hjj
          rw [hmm] at hms ⊢
          have hms0 : (T.extract N N).size = 0 := by omega
          generalize T.extract N N = tm at *
          clear hm hmm
          go_wp2_with fail
          go_ret
          exact ⟨_, rfl, hown, hbw⟩

end Go.Proofs.YtnjaofkieajnlaaGreat

/- The program's Spare whole: an error, or the spare pieces. -/
namespace Go.Proofs.YtnjaofkieajnlaaGreat
open Go.RowKit

set_option maxRecDepth 100000 in
set_option maxHeartbeats 1000000 in
theorem wspare_bad (K M O S : Int) (v : Value) (w : World) (hmay : mayB K M O S = false) :
    Calls Tryz.prog 104 #[specV K M O S, v] w fun e w' => e = .returned (.tuple #[.slice none 0 0, .int .i64 1]) ∧ Below w.heap.size w w' := by
  go_enter Tryz.func104, Tryz.ntmps104
  go_wp2_with fail
  refine (wrows_bad K M O S _ hmay).mono ?_
  rintro e w1 ⟨rfl, hb⟩
  have hb1 : Below w.heap.size w w1 := ((Below.refl _ _).alloc (Nat.le_refl _) _).trans (hb.mono (by simp))
  clear hb
  go_wp2
  go_ret2
  exact ⟨rfl, hb1⟩

set_option maxRecDepth 100000 in
set_option maxHeartbeats 1000000 in
theorem wspare_shape (K M O S : Nat) (v : Value) (l : List ByteArray) (w : World) (hK : 1 ≤ K ∧ K ≤ 20) (hM : 1 ≤ M ∧ M ≤ 20) (hO : 1 ≤ O ∧ O ≤ M) (hS : S ≤ 65535) (hl : l.length ≤ 8796093022208) (hsh : ¬ Shaped l K) (ht : TextsAt w v l) :
    Calls Tryz.prog 104 #[specV K M O S, v] w fun e w' => e = .returned (.tuple #[.slice none 0 0, .int .i64 3]) ∧ Below w.heap.size w w' := by
  have HT := hide ht
  have Hsh := hide hsh
  clear ht hsh
  go_enter Tryz.func104, Tryz.ntmps104
  go_wp2_with fail
  refine (wrows_ok K M O S _ hK hM hO hS).mono ?_
  rintro e w1 ⟨g, rv, rfl, hr, hg, hb⟩
  have hs1 := block_on (heap_alloc_new w _) hb
  have hb1 : Below w.heap.size w w1 := ((Below.refl _ _).alloc (Nat.le_refl _) _).trans (hb.mono (by simp))
  obtain ⟨c0, c1, c2, c3⟩ := spec_cellsI hs1
  clear hb hr hg
  go_wp2_with fail
  refine (sizeOf_any _ l K _ (by omega) (by omega) (HT.out.on hb1)).mono ?_
  rintro e w2 ⟨⟨r, rfl, _, hno⟩, rfl⟩
  obtain rfl := hno Hsh.out
  go_wp2
  go_ret2
  exact ⟨rfl, hb1⟩


set_option maxRecDepth 100000 in
set_option maxHeartbeats 1000000 in
theorem spare_bad (K M O S : Int) (v : Value) (w : World) (hmay : mayB K M O S = false) :
    Calls Tryz.prog 73 #[specV K M O S, v] w fun e w' => e = .returned (.tuple #[.slice none 0 0, .int .i64 1]) ∧ Below w.heap.size w w' := by
  go_enter Tryz.func73, Tryz.ntmps73
  go_wp2_with fail
  refine (wspare_bad K M O S v _ hmay).mono ?_
  rintro e w1 ⟨rfl, hb⟩
  have hb1 : Below w.heap.size w w1 := ((Below.refl _ _).alloc (Nat.le_refl _) _).trans (hb.mono (by simp))
  clear hb
  go_wp2
  go_ret2
  exact ⟨rfl, hb1⟩

set_option maxRecDepth 100000 in
set_option maxHeartbeats 1000000 in
theorem spare_shape (K M O S : Nat) (v : Value) (l : List ByteArray) (w : World) (hK : 1 ≤ K ∧ K ≤ 20) (hM : 1 ≤ M ∧ M ≤ 20) (hO : 1 ≤ O ∧ O ≤ M) (hS : S ≤ 65535) (hl : l.length ≤ 8796093022208) (hsh : ¬ Shaped l K) (ht : TextsAt w v l) :
    Calls Tryz.prog 73 #[specV K M O S, v] w fun e w' => e = .returned (.tuple #[.slice none 0 0, .int .i64 3]) ∧ Below w.heap.size w w' := by
  have HT := hide ht
  have Hsh := hide hsh
  clear ht hsh
  go_enter Tryz.func73, Tryz.ntmps73
  go_wp2_with fail
  refine (wspare_shape K M O S v l _ hK hM hO hS hl Hsh.out (HT.out.on ((Below.refl _ _).alloc (Nat.le_refl _) _))).mono ?_
  rintro e w1 ⟨rfl, hb⟩
  have hb1 : Below w.heap.size w w1 := ((Below.refl _ _).alloc (Nat.le_refl _) _).trans (hb.mono (by simp))
  clear hb
  go_wp2
  go_ret2
  exact ⟨rfl, hb1⟩

set_option maxRecDepth 100000 in
set_option maxHeartbeats 1000000 in
theorem spare_ok (K M O S : Nat) (v : Value) (l : List ByteArray) (w : World) (hK : 1 ≤ K ∧ K ≤ 20) (hM : 1 ≤ M ∧ M ≤ 20) (hO : 1 ≤ O ∧ O ≤ M) (hS : S ≤ 65535) (hsh : Shaped l K) (ht : TextsAt w v l) :
    Calls Tryz.prog 73 #[specV K M O S, v] w fun e w' => ∃ v', e = .returned (.tuple #[v', .int .i64 0]) ∧ w'.ownsRow w.heap.size 9 1 v' M (textV (sparesOf K M O S l (l.getD 0 ByteArray.empty).size)) ∧ Below w.heap.size w w' := by
  have HT := hide ht
  have Hsh := hide hsh
  clear ht hsh
  go_enter Tryz.func73, Tryz.ntmps73
  go_wp2_with fail
  refine (wspare_ok K M O S v l _ hK hM hO hS Hsh.out (HT.out.on ((Below.refl _ _).alloc (Nat.le_refl _) _))).mono ?_
  rintro e w1 ⟨v', rfl, hown, hb⟩
  have hown1 := owns_base (base' := w.heap.size) hown (fun k e => by have := (hown.lt k e).1; simp at this; omega)
  clear hown
  have hb1 : Below w.heap.size w w1 := ((Below.refl _ _).alloc (Nat.le_refl _) _).trans (hb.mono (by simp))
  clear hb
  go_wp2
  go_ret2
  exact ⟨v', rfl, hown1, hb1⟩

end Go.Proofs.YtnjaofkieajnlaaGreat

/- What the document's own Word does: the data, and the spare pieces behind them. -/
namespace Go.Proofs.YtnjaofkieajnlaaGreat
open Go.RowKit

theorem owns_apart {w : World} {b1 b2 : Nat} {e1 e2 : TypeId} {v1 v2 : Value} {n1 n2 : Nat} {xs1 xs2 : List Value} (h1 : w.ownsRow b1 e1 1 v1 n1 xs1) (h2 : w.ownsRow b2 e2 1 v2 n2 xs2) (hne : e1 ≠ e2) : ∀ k, v1.ownBlock = some k → v2.ownBlock ≠ some k := by
  intro k k1 k2
  obtain ⟨c1, hc1⟩ := owns_block h1 k1
  obtain ⟨c2, hc2⟩ := owns_block h2 k2
  rw [hc1] at hc2
  simp at hc2
  exact hne hc2.2

/-- Rows of numbers stand while a row of texts grows. -/
theorem RowsAt.grown {w w' : World} {base g M b n : Nat} {rv : Nat → Value} {L : Nat → List Nat} {v : Value} {xs : List Value} (h : RowsAt w base g M rv L) (hv : w.ownsRow b 9 1 v n xs) (hg : w.grownBy w' v.ownBlock) : RowsAt w' base g M rv L :=
  ⟨h.row.of_block (hg.block g h.row.lt (fun e => owns_ne hv h.row (by decide) g e.symm rfl)), h.gb,
    fun i hi => owns_of_block (h.own i hi) (fun k e => hg.block k ((h.own i hi).lt k e).2 (fun e2 => owns_apart (h.own i hi) hv (by decide) k e e2.symm)), h.apart⟩

theorem owns_prefix {w : World} {base q n cap : Nat} {e : TypeId} {xs : List Value} (h : w.ownsRow base e 1 (.slice (some ⟨q, 0, none⟩) n cap) n xs) (m : Nat) (hm : m ≤ n) : w.ownsRow base e 1 (.slice (some ⟨q, 0, none⟩) m cap) m (xs.take m) := by
  have hl := h.1
  rcases h.2 with ⟨h0, _⟩ | ⟨g, c, cur, hv, hb, hg, hc, hmx, hs, ht⟩
  · simp at h0
  · simp at hv
    obtain ⟨rfl, rfl⟩ := hv
    refine ⟨by rw [List.length_take]; omega, Or.inr ⟨_, cap, cur, rfl, hb, hg, by omega, hmx, hs, ?_⟩⟩
    rw [← ht, List.take_take]
    congr 1
    omega

theorem owns_cap {w : World} {base q n cap : Nat} {e : TypeId} {xs : List Value} (h : w.ownsRow base e 1 (.slice (some ⟨q, 0, none⟩) n cap) n xs) : n ≤ cap ∧ cap ≤ maxLen := by
  rcases h.2 with ⟨h0, _⟩ | ⟨g, c, cur, hv, hb, hg, hc, hmx, hs, ht⟩
  · simp at h0
  · simp at hv
    obtain ⟨rfl, rfl⟩ := hv
    exact ⟨hc, hmx⟩

set_option maxRecDepth 100000 in
set_option maxHeartbeats 4000000 in
theorem rword_ok (K M O S : Nat) (v : Value) (l : List ByteArray) (w : World) (hK : 1 ≤ K ∧ K ≤ 20) (hM : 1 ≤ M ∧ M ≤ 20) (hO : 1 ≤ O ∧ O ≤ M) (hS : S ≤ 65535) (hsh : Shaped l K) (ht : TextsAt w v l) :
    Calls Tryz.prog 76 #[specV K M O S, v] w fun e w' => ∃ v', e = .returned v' ∧ w'.ownsRow w.heap.size 9 1 v' (K + M) (textV (knownTo l (rowOf K M O S) (l.getD 0 ByteArray.empty).size M)) ∧ Below w.heap.size w w' := by
  have hlK := hsh.1
  have Hsh := hide hsh
  obtain ⟨ao, cap, rfl, hcap, hc⟩ := ht
  obtain ⟨q, o, rfl, hq, _⟩ := hc 0 (by omega)
  have hcells := texts_cells hc rfl
  clear hsh hc
  subst hlK
  obtain ⟨i0, hi, hz0, hz1, hz2⟩ := info_parts Tryz.infoText
  generalize hr : (l.getD 0 ByteArray.empty).size = r at *
  have hr1 : 1 ≤ r ∧ r ≤ 16 := by have := (Hsh.out.2 0 (by omega)).2; rw [hr] at this; exact this
  have Hr := hide hr
  have hc2 : ∀ k, k < l.length → (w.alloc (specB l.length M O S)).cell? ⟨q, o + k, none⟩ = some (.string (l.getD k ByteArray.empty)) := fun k hk => by
    rw [World.cell?_alloc_lt _ _ _ (by exact hq)]; exact hcells k hk
  have HN := hide (texts_news hc2)
  clear hc2 hr hcells
  have hnil := World.ownsRow_nil (w.alloc (specB l.length M O S)) w.heap.size 9 1
  go_enter Tryz.func76, Tryz.ntmps76
  go_wp2_with (at_builtin; refine wpList_append_lies _ rfl (.tmp 10) (.tmp 11) 27 rfl w.heap.size 9 i0 (.string ByteArray.empty) 1 16 Tryz.underlying27 hi hz0 hz1 hz2 rfl (by decide) _ _ _ rfl hnil ⟨q, o, none⟩ l.length cap (textV l) rfl (by rw [textV_length]; omega) HN.out (textV_one l) (by omega) (by unfold maxLen; omega) (by omega) (by simp) (w.heap.size + 1) (by simp) ?_)
  intro g9 cap9 w1 hown9 hgr9 hat9 hlt9
  have hb1 : Below (w.alloc (specB l.length M O S)).heap.size (w.alloc (specB l.length M O S)) w1 := (Below.refl _ _).grown hgr9 (Nat.le_refl _) (fun k e => by simp [Value.ownBlock] at e)
  have hs1 := block_on (heap_alloc_new w (specB l.length M O S)) hb1
  have hbw : Below w.heap.size w w1 := ((Below.refl _ _).alloc (Nat.le_refl _) _).trans (hb1.mono (by simp))
  obtain ⟨c0, c1, c2, c3⟩ := spec_cellsI hs1
  clear hb1 hgr9 hat9
  go_wp2_with fail
  refine (rrows_ok l.length M O S _ hK hM hO hS).mono ?_
  rintro e w2 ⟨g, rv, rfl, hrw, hg, hb2⟩
  have hown2 := owns_below hown9 hb2
  have hbw2 := hbw.trans (hb2.mono hbw.size)
  have h0 : w2.ownsRow w.heap.size 9 1 (.slice (some ⟨g9, 0, none⟩) l.length cap9) (l.length + 0) (textV (knownTo l (rowOf l.length M O S) r 0)) := hown2
  clear c0 c1 c2 c3 hs1 hb2 hown9 hbw hown2
  go_wp2_with fail
  go_loopw [5, 16] (fun v5 t wr => ∃ i : Nat, i ≤ M ∧ t = .int .i64 i ∧ wr.ownsRow w.heap.size 9 1 v5 (l.length + i) (textV (knownTo l (rowOf l.length M O S) r i)) ∧ RowsAt wr (g + 1) g M rv (rowOf l.length M O S) ∧ Below w.heap.size w wr) (fun _ t _ => M - (intOf t).toNat)
  case atStart => exact ⟨0, Nat.zero_le _, rfl, h0, hrw, hbw2⟩
  case round =>
    clear h0 hrw hbw2
    obtain ⟨i, hiM, rfl, hown, hrw, hbw⟩ := hrel
    by_cases hlt : i < M
    · have hrc := hrw.cell hlt
      have hrl := rowOf_len l.length M O S i
      have hkl := knownTo_length l (rowOf l.length M O S) r i
      have hro := hrw.own i hlt
      rw [rowOf_head] at hro
      have hhl : (rowHead l.length M O S i ++ [l.length + i]).length = (rowHead l.length M O S i).length + 1 := by simp
      rw [rowOf_head, hhl] at hrl
      obtain ⟨q3, cap3, hrv, _, _⟩ := hro.form (by rw [hhl]; omega)
      rw [hhl] at hrv hro
      rw [hrv] at hro hrc
      have hpre := owns_prefix hro (rowHead l.length M O S i).length (by omega)
      rw [numsV_append, List.take_left' (numsV_length _)] at hpre
      have hcp := owns_cap hro
      unfold maxLen at hcp
      clear hro hrv hhl
      go_wp2_with fail
      refine (total_any _ _ (knownTo l (rowOf l.length M O S) r i) (rowHead l.length M O S i) r _ _ (by omega) (by omega) (by omega) (by omega) (knownTo_size (fun x hx => ?hx) i) (fun j hj => by have := rowHead_lt l.length M O S i j hj; omega) hpre (owns_texts hown hkl.symm)).mono ?_
      case hx => rw [← Hr.out]; exact Hsh.out.sizes x hx
      rintro e w4 ⟨rfl, hb4⟩
      have hown4 := owns_below hown hb4
      have hrw4 := hrw.below hb4
      have hbw4 := hbw.trans (hb4.mono hbw.size)
      have hks : knownTo l (rowOf l.length M O S) r (i + 1) = knownTo l (rowOf l.length M O S) r i ++ [sumB (knownTo l (rowOf l.length M O S) r i) (rowHead l.length M O S i) r] := by
        rw [← sumB_head hkl]; rfl
      have Hks := hide hks
      generalize hkn : knownTo l (rowOf l.length M O S) r i = kn at *
      generalize htt : sumB kn (rowHead l.length M O S i) r = tt at *
      have hw4 := hbw4.size
      clear hb4 hrw hrc hks hkn htt hown hbw hpre
      go_wp2_with (first | (at_builtin; refine wpList_append_lies _ rfl (.tmp 28) (.tmp 30) 27 rfl w.heap.size 9 i0 (.string ByteArray.empty) 1 16 Tryz.underlying27 hi hz0 hz1 hz2 rfl (by decide) _ _ _ rfl (hown4.alloc _) ⟨w4.heap.size, 0, none⟩ 1 1 [.string tt] rfl rfl (one_news _ _ _) (one_oneCell rfl) (by decide) (by unfold maxLen; omega) (by omega) (by simp; omega) (w4.heap.size + 1) (by simp) ?_))
      intro g5 cap5 w5 hown5 hgr5 hat5 hlt5
      have hrw5 := hrw4.grown hown4 (grownBy_of_alloc hgr5)
      have hb5 : Below w.heap.size w w5 := (((Chg.of_below hbw4 (fun _ => False)).alloc _).grown hgr5 (fun k e => Or.inl (hown4.lt k e).1)).below (fun _ _ f => f)
      clear hrw4 hown4 hbw4 hgr5 hat5
      go_wp2
      go_roundw
      case rel => exact ⟨i + 1, by omega, by go_num, by rw [Hks.out, textV_append]; exact hown5, hrw5, hb5⟩
      case measure => simp [intOf]; omega
    · have hiM2 : i = M := by omega
      subst hiM2
      go_wp2
      go_ret
      exact ⟨_, rfl, hown, hbw⟩

end Go.Proofs.YtnjaofkieajnlaaGreat

/- Spared: for every specification and every list of texts the program's Spare answers as the document asks, and leaves what is handed in alone. -/
namespace Go.Proofs.YtnjaofkieajnlaaGreat
open Go.RowKit

theorem owns_suffix {w : World} {base g n cap K : Nat} {kn : List ByteArray} (h : w.ownsRow base 9 1 (.slice (some ⟨g, 0, none⟩) n cap) n (textV kn)) (hn : n = kn.length) (hK : K ≤ n) :
    TextsAt w (.slice (some ⟨g, K, none⟩) (n - K) (cap - K)) (kn.drop K) := by
  obtain ⟨ao, c, hv, hc, hcell⟩ := owns_texts h hn
  simp at hv
  obtain ⟨rfl, rfl, rfl⟩ := hv
  refine ⟨_, _, by rw [List.length_drop], by rw [List.length_drop]; omega, fun k hk => ?_⟩
  rw [List.length_drop] at hk
  obtain ⟨q, o, he, hq, hcl⟩ := hcell (K + k) (by omega)
  simp at he
  obtain ⟨rfl, rfl⟩ := he
  refine ⟨g, K, rfl, hq, ?_⟩
  rw [Nat.zero_add] at hcl
  rw [hcl]
  simp [List.getD_eq_getElem?_getD, List.getElem?_drop]

theorem TextsAt.chg {w w1 : World} {v : Value} {l : List ByteArray} (h : TextsAt w v l) (hb : Chg (fun _ => False) w w1) : TextsAt w1 v l := h.on (hb.below (fun _ _ x => x))

theorem HandedAt.on {w w1 : World} {g : Nat} {l : List ByteArray} (h : HandedAt w g l) (hb : Below w.heap.size w w1) : HandedAt w1 g l := h.of_block (hb.block g h.lt)

theorem Below.chg {w w1 w2 : World} {B : Nat} (h : Below B w w1) (hB : B ≤ w1.heap.size) (hc : Chg (fun _ => False) w1 w2) : Below B w w2 := h.trans ((hc.below (fun _ _ x => x)).mono hB)

set_option maxRecDepth 100000 in
set_option maxHeartbeats 2000000 in
theorem lawSpare_bad (K M O S : Int) (v : Value) (l : List ByteArray) (w : World) (hl : l.length ≤ 8796093022208) (hmay : mayB K M O S = false) (ht : TextsAt w v l) :
    Calls Tryz.prog 46 #[specV K M O S, v] w fun e w' => e = .returned (.tuple #[.slice none 0 0, .bool true]) ∧ Below w.heap.size w w' := by
  have HT := hide ht
  clear ht
  go_enter Tryz.func46, Tryz.ntmps46
  go_wp2_with fail
  refine (handed_any v l _ hl (HT.out.on ((Below.refl _ _).alloc (Nat.le_refl _) _))).mono ?_
  rintro e w1 ⟨g, rfl, hh, hg, hb⟩
  have hs1 := block_on (heap_alloc_new w _) hb
  have hb1 : Below w.heap.size w w1 := ((Below.refl _ _).alloc (Nat.le_refl _) _).trans (hb.mono (by simp))
  obtain ⟨c0, c1, c2, c3⟩ := spec_cellsI hs1
  clear hb hg
  go_wp2_with fail
  refine (spare_bad K M O S _ _ hmay).mono ?_
  rintro e w2 ⟨rfl, hb⟩
  have hs2 := block_on hs1 hb
  have hh2 := hh.on hb
  have hb2 := hb1.trans (hb.mono hb1.size)
  clear c0 c1 c2 c3 hs1 hb1 hb hh
  go_wp2_with fail
  refine (still_yes v l g _ hl hh2 (HT.out.on hb2)).mono ?_
  rintro e w3 ⟨rfl, hcg⟩
  have hb := hcg.below (fun _ _ x => x)
  have hs3 := block_on hs2 hb
  have hb3 := hb2.trans (hb.mono hb2.size)
  obtain ⟨c0, c1, c2, c3⟩ := spec_cellsI hs3
  clear hcg hb hs2 hb2 hh2
  go_wp2_with fail
  refine (may_below _ _ _ _ _).mono ?_
  rintro e w4 ⟨rfl, hb⟩
  rw [hmay]
  have hb4 := hb3.trans (hb.mono hb3.size)
  clear c0 c1 c2 c3 hb hb3 hs3
  go_wp2
  go_ret2
  exact ⟨rfl, hb4⟩

set_option maxRecDepth 100000 in
set_option maxHeartbeats 2000000 in
theorem lawSpare_shape (K M O S : Nat) (v : Value) (l : List ByteArray) (w : World) (hK : 1 ≤ K ∧ K ≤ 20) (hM : 1 ≤ M ∧ M ≤ 20) (hO : 1 ≤ O ∧ O ≤ M) (hS : S ≤ 65535) (hl : l.length ≤ 8796093022208) (hsh : ¬ Shaped l K) (ht : TextsAt w v l) :
    Calls Tryz.prog 46 #[specV K M O S, v] w fun e w' => e = .returned (.tuple #[.slice none 0 0, .bool true]) ∧ Below w.heap.size w w' := by
  have hmay : mayB K M O S = true := by simp [mayB]; omega
  have HT := hide ht
  have Hsh := hide hsh
  clear ht hsh
  go_enter Tryz.func46, Tryz.ntmps46
  go_wp2_with fail
  refine (handed_any v l _ hl (HT.out.on ((Below.refl _ _).alloc (Nat.le_refl _) _))).mono ?_
  rintro e w1 ⟨g, rfl, hh, hg, hb⟩
  have hs1 := block_on (heap_alloc_new w _) hb
  have hb1 : Below w.heap.size w w1 := ((Below.refl _ _).alloc (Nat.le_refl _) _).trans (hb.mono (by simp))
  obtain ⟨c0, c1, c2, c3⟩ := spec_cellsI hs1
  clear hb hg
  go_wp2_with fail
  refine (spare_shape K M O S _ l _ hK hM hO hS hl Hsh.out hh.texts).mono ?_
  rintro e w2 ⟨rfl, hb⟩
  have hs2 := block_on hs1 hb
  have hh2 := hh.on hb
  have hb2 := hb1.trans (hb.mono hb1.size)
  clear c0 c1 c2 c3 hs1 hb1 hb hh
  go_wp2_with fail
  refine (still_yes v l g _ hl hh2 (HT.out.on hb2)).mono ?_
  rintro e w3 ⟨rfl, hcg⟩
  have hb := hcg.below (fun _ _ x => x)
  have hs3 := block_on hs2 hb
  have hb3 := hb2.trans (hb.mono hb2.size)
  obtain ⟨c0, c1, c2, c3⟩ := spec_cellsI hs3
  clear hcg hb hs2 hb2 hh2
  go_wp2_with fail
  refine (may_below _ _ _ _ _).mono ?_
  rintro e w4 ⟨rfl, hb⟩
  rw [hmay]
  have hs4 := block_on hs3 hb
  have hb4 := hb3.trans (hb.mono hb3.size)
  clear c0 c1 c2 c3 hb hb3 hs3
  obtain ⟨c0, c1, c2, c3⟩ := spec_cellsI hs4
  go_wp2_with fail
  refine (shaped_any v l K _ (by omega) hl (HT.out.on hb4)).mono ?_
  rintro e w5 ⟨⟨b, rfl, _, hno⟩, rfl⟩
  obtain rfl := hno Hsh.out
  go_wp2
  go_ret2
  exact ⟨rfl, hb4⟩

set_option maxRecDepth 100000 in
set_option maxHeartbeats 2000000 in
theorem lawSpare_ok (K M O S : Nat) (v : Value) (l : List ByteArray) (w : World) (hK : 1 ≤ K ∧ K ≤ 20) (hM : 1 ≤ M ∧ M ≤ 20) (hO : 1 ≤ O ∧ O ≤ M) (hS : S ≤ 65535) (hsh : Shaped l K) (ht : TextsAt w v l) :
    Calls Tryz.prog 46 #[specV K M O S, v] w fun e w' => ∃ v', e = .returned (.tuple #[v', .bool true]) ∧ w'.ownsRow w.heap.size 9 1 v' M (textV (sparesOf K M O S l (l.getD 0 ByteArray.empty).size)) ∧ Below w.heap.size w w' := by
  have hmay : mayB K M O S = true := by simp [mayB]; omega
  have hlK := hsh.1
  have hl : l.length ≤ 8796093022208 := by omega
  have HT := hide ht
  have Hsh := hide hsh
  have HlK := hide hlK
  clear ht hsh hlK
  go_enter Tryz.func46, Tryz.ntmps46
  go_wp2_with fail
  refine (handed_any v l _ hl (HT.out.on ((Below.refl _ _).alloc (Nat.le_refl _) _))).mono ?_
  rintro e w1 ⟨g, rfl, hh, hg, hb⟩
  have hs1 := block_on (heap_alloc_new w _) hb
  have hb1 : Below w.heap.size w w1 := ((Below.refl _ _).alloc (Nat.le_refl _) _).trans (hb.mono (by simp))
  obtain ⟨c0, c1, c2, c3⟩ := spec_cellsI hs1
  clear hb hg
  go_wp2_with fail
  refine (spare_ok K M O S _ l _ hK hM hO hS Hsh.out hh.texts).mono ?_
  rintro e w2 ⟨v', rfl, hv, hb⟩
  have hs2 := block_on hs1 hb
  have hh2 := hh.on hb
  have hb2 := hb1.trans (hb.mono hb1.size)
  have hv2 := owns_base (base' := w.heap.size) hv (fun k e => by have := (hv.lt k e).1; have := hb1.size; omega)
  clear c0 c1 c2 c3 hs1 hb1 hb hh hv
  go_wp2_with fail
  refine (still_yes v l g _ hl hh2 (HT.out.on hb2)).mono ?_
  rintro e w3 ⟨rfl, hcg⟩
  have hb := hcg.below (fun _ _ x => x)
  have hs3 := block_on hs2 hb
  have hb3 := hb2.trans (hb.mono hb2.size)
  have hv3 := owns_below hv2 hb
  obtain ⟨c0, c1, c2, c3⟩ := spec_cellsI hs3
  clear hcg hb hs2 hb2 hh2 hv2
  go_wp2_with fail
  refine (may_below _ _ _ _ _).mono ?_
  rintro e w4 ⟨rfl, hb⟩
  rw [hmay]
  have hs4 := block_on hs3 hb
  have hb4 := hb3.trans (hb.mono hb3.size)
  have hv4 := owns_below hv3 hb
  clear c0 c1 c2 c3 hb hb3 hs3 hv3
  obtain ⟨c0, c1, c2, c3⟩ := spec_cellsI hs4
  go_wp2_with fail
  refine (shaped_any v l K _ (by omega) hl (HT.out.on hb4)).mono ?_
  rintro e w5 ⟨⟨b, rfl, hyes, _⟩, rfl⟩
  obtain rfl := hyes Hsh.out
  go_wp2_with fail
  refine (rword_ok K M O S v l _ hK hM hO hS Hsh.out (HT.out.on hb4)).mono ?_
  rintro e w6 ⟨vw, rfl, hw, hb⟩
  obtain ⟨gw, capw, rfl, _, _⟩ := hw.form (by omega)
  have hcp := owns_cap hw
  unfold maxLen at hcp
  have hs6 := block_on hs4 hb
  have hb6 := hb4.trans (hb.mono hb4.size)
  have hv6 := owns_below hv4 hb
  have hsuf := owns_suffix (K := K) hw (by rw [knownTo_length, HlK.out]) (by omega)
  have hsl : K + M - K = M := by omega
  rw [hsl] at hsuf
  have hsp : (knownTo l (rowOf K M O S) (l.getD 0 ByteArray.empty).size M).drop K = sparesOf K M O S l (l.getD 0 ByteArray.empty).size := by unfold sparesOf; rw [HlK.out]
  rw [hsp] at hsuf
  have hne : ¬ capw = K := by omega
  have hnk : ¬ capw - K = 0 := by omega
  clear c0 c1 c2 c3 hb hb4 hs4 hv4 hw hsp
  obtain ⟨c0, c1, c2, c3⟩ := spec_cellsI hs6
  go_wp2_with fail
  refine (sameTexts_yes _ _ _ _ (by rw [sparesOf_length]; omega) (owns_texts hv6 (by rw [sparesOf_length])) hsuf).mono ?_
  rintro e w7 ⟨rfl, hcg⟩
  have hb7 := Below.chg hb6 hb6.size hcg
  have hv7 := owns_below hv6 (hcg.below (fun _ _ x => x))
  clear c0 c1 c2 c3 hcg hb6 hv6 hsuf hs6
  go_wp2
  go_ret2
  exact ⟨v', rfl, hv7, hb7⟩

end Go.Proofs.YtnjaofkieajnlaaGreat
