/- Texts of the proof, part 15. -/
import Derived.Test.YtnjaofkieajnlaaGreatTakenG11
import Derived.Test.YtnjaofkieajnlaaGreatTakenG12
import Derived.Test.YtnjaofkieajnlaaGreatTakenG7
import Derived.Test.YtnjaofkieajnlaaGreatTakenG8

/- The document's own data of an object. -/
namespace Go.Proofs.YtnjaofkieajnlaaGreat
open Go.RowKit

/-- The two bytes of a length. -/
def lenB (n : Nat) : ByteArray := ⟨#[UInt8.ofNat (n % 256), UInt8.ofNat (n / 256)]⟩

theorem numsB_len (n : Nat) (h : n ≤ 65535) : numsB (lenB n) = [((n % 256 : Nat) : Int), ((n / 256 : Nat) : Int)] := by
  show [((UInt8.ofNat (n % 256)).toNat : Int), ((UInt8.ofNat (n / 256)).toNat : Int)] = _
  rw [ofNat_u8 (n % 256) (by omega), ofNat_u8 (n / 256) (by omega)]

/-- The text of an object's data, for N bytes. -/
def objT (N : Nat) (o : ByteArray) : ByteArray := lenB o.size ++ o ++ zeroB (N - (2 + o.size))

/-- The pieces of a text. -/
def cutTo (t : ByteArray) (z : Nat) : Nat → List ByteArray
  | 0 => []
  | j + 1 => cutTo t z j ++ [t.extract (j * z) (j * z + z)]

theorem cutTo_length (t : ByteArray) (z j : Nat) : (cutTo t z j).length = j := by
  induction j with
  | zero => rfl
  | succ j ih => show (cutTo t z j ++ [_]).length = _; rw [List.length_append, ih]; rfl

/-- How long a text is. -/
def lenV (v : Value) : Nat := match v with
  | .string b => b.size
  | _ => 0

theorem pad_succ (t : ByteArray) (k : Nat) : t ++ zeroB k ++ ⟨#[0]⟩ = t ++ zeroB (k + 1) := by
  rw [ByteArray.append_assoc, zeroB_succ]

set_option maxRecDepth 100000 in
set_option maxHeartbeats 8000000 in
theorem data_any (M O S : Int) (K z N : Nat) (o : ByteArray) (w : World) (hz : 1 ≤ z ∧ z ≤ 16) (hK : K ≤ 20) (hN : N = K * z) (ho : o.size + 2 ≤ N) :
    Calls Tryz.prog 107 #[specV K M O S, .int .i64 (z : Int), .string o] w fun e w' => ∃ v, e = .returned v ∧ w'.ownsRow w.heap.size 9 1 v K (textV (cutTo (objT N o) z K)) ∧ Below w.heap.size w w' := by
  have hN2 : N ≤ 320 := by rw [hN]; exact Nat.le_trans (Nat.mul_le_mul hK hz.2) (by decide)
  have hlow := low_byte o.size (by omega)
  have hmul : (K : Int) * (z : Int) = (N : Int) := by rw [hN]; simp
  have hm1 : 0 ≤ (K : Int) * (z : Int) := by rw [hmul]; omega
  have hm2 : (K : Int) * (z : Int) ≤ 320 := by rw [hmul]; omega
  have hcv := conv_block (lenB o.size) (w.heap.size + 1) #[.int .u8 (bits BinOp.and IntKind.i64 (o.size : Int) 255 % 256), .int .u8 ((o.size : Int) / 256)] ((w.alloc (.cells #[.int .i64 (K : Int), .int .i64 M, .int .i64 O, .int .i64 S] 25)).alloc (.cells #[.int .u8 (bits BinOp.and IntKind.i64 (o.size : Int) 255 % 256), .int .u8 ((o.size : Int) / 256)] 5)) (heap_alloc2p w _ _) (by rw [numsB_len o.size (by omega), hlow]; rfl)
  have hcv' : (convert 106 9 (.slice (some ⟨w.heap.size + 1, 0, none⟩) 2 2)).run Tryz.prog ((w.alloc (.cells #[.int .i64 (K : Int), .int .i64 M, .int .i64 O, .int .i64 S] 25)).alloc (.cells #[.int .u8 (bits BinOp.and IntKind.i64 (o.size : Int) 255 % 256), .int .u8 ((o.size : Int) / 256)] 5)) = .ok (.string (lenB o.size)) _ := hcv
  have hls : (lenB o.size).size = 2 := rfl
  obtain ⟨j0, gi, gz0, gz1, gz2⟩ := info_parts Tryz.infoText
  clear hcv hlow
  have hob : objT N o = lenB o.size ++ o ++ zeroB (N - (2 + o.size)) := rfl
  have hos : (objT N o).size = N := by rw [hob, ByteArray.size_append, ByteArray.size_append, zeroB_size]; show 2 + o.size + (N - (2 + o.size)) = N; omega
  generalize lenB o.size = lb at *
  generalize objT N o = T at *
  have HO := hide hob
  have hsp : ((w.alloc (.cells #[.int .i64 (K : Int), .int .i64 M, .int .i64 O, .int .i64 S] 25)).alloc (.cells #[.int .u8 (bits BinOp.and IntKind.i64 (o.size : Int) 255 % 256), .int .u8 ((o.size : Int) / 256)] 5)).cell? ⟨w.heap.size, 0, none⟩ = some (.int .i64 (K : Int)) := by
    rw [World.cell?_alloc_lt _ _ _ (by simp), cell_of_row _ _ _ _ _ _ (heap_alloc_new w _)]; rfl
  have hbA : Below w.heap.size w ((w.alloc (.cells #[.int .i64 (K : Int), .int .i64 M, .int .i64 O, .int .i64 S] 25)).alloc (.cells #[.int .u8 (bits BinOp.and IntKind.i64 (o.size : Int) 255 % 256), .int .u8 ((o.size : Int) / 256)] 5)) := ((Below.refl _ _).alloc (Nat.le_refl _) _).alloc (by simp) _
  clear hob
  go_enter Tryz.func107, Tryz.ntmps107
  go_wp2_with fail
  clear hcv'
  generalize (w.alloc (.cells #[.int .i64 (K : Int), .int .i64 M, .int .i64 O, .int .i64 S] 25)).alloc (.cells #[.int .u8 (bits BinOp.and IntKind.i64 (o.size : Int) 255 % 256), .int .u8 ((o.size : Int) / 256)] 5) = W at *
  have hts : (lb ++ o).size = 2 + o.size := by rw [ByteArray.size_append, hls]
  generalize lb ++ o = t0 at *
  have HM := hide hmul
  have HN := hide hN
  clear hmul hN
  go_loop [8] (fun tv => ∃ k : Nat, 2 + o.size + k ≤ N ∧ tv = .string (t0 ++ zeroB k)) (fun tv => N - lenV tv)
  case atStart => exact ⟨0, by omega, by rw [show zeroB 0 = ByteArray.empty from rfl, ByteArray.append_empty]⟩
  case round =>
    obtain ⟨k, hk1, rfl⟩ := hrel
    have hps := pad_succ t0 k
    have hsk : (t0 ++ zeroB k).size = 2 + o.size + k := by rw [ByteArray.size_append, hts, zeroB_size]
    have hsk1 : (t0 ++ zeroB (k + 1)).size = 2 + o.size + k + 1 := by rw [ByteArray.size_append, hts, zeroB_size]; omega
    have Hps := hide hps
    clear hps
    by_cases hlt : 2 + o.size + k < N
    · have hc1 : ((2 : Int) + (o.size : Int) + (k : Int)) < (K : Int) * (z : Int) := by rw [HM.out]; omega
      generalize t0 ++ zeroB k = tk at *
      go_wp2_with fail
      go_round
      case rel => exact ⟨k + 1, by omega, by rw [Hps.out]⟩
      case measure =>
        show N - (tk ++ ⟨#[0]⟩).size < N - tk.size
        rw [ByteArray.size_append, hsk]
        show N - (2 + o.size + k + 1) < N - (2 + o.size + k)
        omega
    · have hc1 : ¬ ((2 : Int) + (o.size : Int) + (k : Int)) < (K : Int) * (z : Int) := by rw [HM.out]; omega
      have hkN : k = N - (2 + o.size) := by omega
      have hT : t0 ++ zeroB k = T := by rw [hkN]; exact HO.out.symm
      rw [hT]
      rw [hT] at hsk
      clear HO hT hsk1 Hps hkN
      go_wp2_with fail
      go_loopw [8, 9] (fun tv ov wr => ∃ (j m : Nat), j ≤ K ∧ m = j * z ∧ tv = .string (T.extract m N) ∧ wr.ownsRow w.heap.size 9 1 ov j (textV (cutTo T z j)) ∧ Below w.heap.size w wr) (fun tv _ _ => lenV tv)
      case atStart => exact ⟨0, 0, Nat.zero_le _, by simp, by rw [← hos, ByteArray.extract_zero_size], World.ownsRow_nil _ _ _ _, hbA⟩
      case round =>
        obtain ⟨j, m, hj, hm, rfl, hown, hbw⟩ := hrel
        have hmN : m ≤ N := by rw [hm, HN.out]; exact Nat.mul_le_mul_right z hj
        have hms : (T.extract m N).size = N - m := by rw [ByteArray.size_extract]; omega
        by_cases hjK : j < K
        · have hmz : m + z ≤ N := by rw [hm, HN.out, ← Nat.succ_mul]; exact Nat.mul_le_mul_right z hjK
          have hm2 : m + z = (j + 1) * z := by rw [hm, Nat.succ_mul]
          have e1 : (T.extract m N).extract 0 z = T.extract m (m + z) := by rw [ByteArray.extract_extract]; congr 1; omega
          have e2 : (T.extract m N).extract z (N - m) = T.extract (m + z) N := by rw [ByteArray.extract_extract]; congr 1; omega
          have hcut : cutTo T z (j + 1) = cutTo T z j ++ [T.extract m (m + z)] := by rw [hm]; rfl
          have hes : (T.extract (m + z) N).size = N - (m + z) := by rw [ByteArray.size_extract]; omega
          have H1 := hide e1
          have H2 := hide e2
          have H3 := hide hcut
          have H4 := hide hm2
          clear e1 e2 hcut hm2 hm
          generalize T.extract m N = tm at *
          have hwsz := hbw.size
          go_wp2_with (at_builtin; refine wpList_append_lies _ rfl (.tmp 34) (.tmp 38) 27 rfl w.heap.size 9 j0 (.string ByteArray.empty) 1 16 Tryz.underlying27 gi gz0 gz1 gz2 rfl (by decide) _ _ _ rfl (hown.alloc _) ⟨wr.heap.size, 0, none⟩ 1 1 [.string (tm.extract 0 z)] rfl rfl (one_news _ _ _) (one_oneCell rfl) (by decide) (by unfold maxLen; omega) (by omega) (by simp; omega) (wr.heap.size + 1) (by simp) ?_)
          intro g cap w2 hown2 hgr2 hat2 hlt2
          have hb2 : Below w.heap.size w w2 := hbw.grown (grownBy_of_alloc hgr2) hbw.size (fun k e => (hown.lt k e).1)
          rw [H1.out] at hown2
          have hown3 : w2.ownsRow w.heap.size 9 1 (.slice (some ⟨g, 0, none⟩) (j + 1) cap) (j + 1) (textV (cutTo T z (j + 1))) := by rw [H3.out, textV_append]; exact hown2
          clear hown2 hgr2 hat2 hown
          go_wp2_with fail
          go_roundw
          case rel => exact ⟨j + 1, m + z, by omega, H4.out, by rw [← H2.out], hown3, hb2⟩
          case measure =>
            show (tm.extract z (N - m)).size < tm.size
            rw [ByteArray.size_extract, hms]
            omega
        · have hjj : j = K := by omega
          have hmm : m = N := by rw [hm, hjj, HN.out]
          subst hjj
          rw [hmm] at hms ⊢
          have hms0 : (T.extract N N).size = 0 := by omega
          generalize T.extract N N = tm at *
          clear hm hmm
          go_wp2_with fail
          go_ret
          exact ⟨_, rfl, hown, hbw⟩

end Go.Proofs.YtnjaofkieajnlaaGreat

/- The document's own Send. -/
namespace Go.Proofs.YtnjaofkieajnlaaGreat
open Go.RowKit

/-- The packets of a word's first pieces. -/
def packTo (K M O S z : Nat) (P : List ByteArray) : Nat → List ByteArray
  | 0 => []
  | i + 1 => packTo K M O S z P i ++ [packB K M O S z i (P.getD i ByteArray.empty)]

theorem packTo_length (K M O S z : Nat) (P : List ByteArray) (i : Nat) : (packTo K M O S z P i).length = i := by
  induction i with
  | zero => rfl
  | succ i ih => show (packTo K M O S z P i ++ [_]).length = _; rw [List.length_append, ih]; rfl

theorem cutTo_size (t : ByteArray) (z j : Nat) (h : j * z ≤ t.size) : ∀ x ∈ cutTo t z j, x.size = z := by
  induction j with
  | zero => intro x hx; simp [cutTo] at hx
  | succ j ih =>
    intro x hx
    rw [Nat.succ_mul] at h
    rcases List.mem_append.1 (show x ∈ cutTo t z j ++ [t.extract (j * z) (j * z + z)] from hx) with hx | hx
    · exact ih (by omega) x hx
    · simp at hx; subst hx
      rw [ByteArray.size_extract]; omega

theorem objT_size (N : Nat) (o : ByteArray) (h : o.size + 2 ≤ N) : (objT N o).size = N := by
  unfold objT
  rw [ByteArray.size_append, ByteArray.size_append, zeroB_size]
  show 2 + o.size + (N - (2 + o.size)) = N
  omega

theorem shape_made {l : List ByteArray} {n z : Nat} (hl : l.length = n) (hn : 0 < n) (hs : ∀ x ∈ l, x.size = z) (hz : 1 ≤ z ∧ z ≤ 16) : Shaped l n ∧ (l.getD 0 ByteArray.empty).size = z := by
  have hget : ∀ k, k < l.length → (l.getD k ByteArray.empty).size = z := fun k hk => hs _ (by rw [List.getD_eq_getElem?_getD, List.getElem?_eq_getElem hk]; exact List.getElem_mem hk)
  exact ⟨⟨hl, fun k hk => by rw [hget k hk, hget 0 (by omega)]; omega⟩, hget 0 (by omega)⟩

/-- What is owned from a place on is owned from a lower one on. -/
theorem owns_low {w : World} {base base' : Nat} {e : TypeId} {size : Nat} {v : Value} {n : Nat} {xs : List Value} (h : w.ownsRow base e size v n xs) (hb : base' ≤ base) : w.ownsRow base' e size v n xs := by
  refine ⟨h.1, ?_⟩
  rcases h.2 with h2 | ⟨g, cap, cur, h1, h2, h3⟩
  · exact Or.inl h2
  · exact Or.inr ⟨g, cap, cur, h1, Nat.le_trans hb h2, h3⟩

/-- An object's word. -/
def objWord (K M O S z : Nat) (o : ByteArray) : List ByteArray := knownTo (cutTo (objT (K * z) o) z K) (rowOf K M O S) z M

set_option maxRecDepth 100000 in
set_option maxHeartbeats 8000000 in
theorem rsend_ok (K M O S z : Nat) (o : ByteArray) (w : World) (hK : 1 ≤ K ∧ K ≤ 20) (hM : 1 ≤ M ∧ M ≤ 20) (hO : 1 ≤ O ∧ O ≤ M) (hS : S ≤ 65535) (hz : 1 ≤ z ∧ z ≤ 16) (ho : o.size + 2 ≤ K * z) :
    Calls Tryz.prog 78 #[specV K M O S, .int .i64 (z : Int), .string o] w fun e w' => ∃ v, e = .returned (.tuple #[v, .int .i64 0]) ∧ w'.ownsRow w.heap.size 9 1 v (K + M) (textV (packTo K M O S z (objWord K M O S z o) (K + M))) ∧ Below w.heap.size w w' := by
  have hN2 : K * z ≤ 320 := Nat.le_trans (Nat.mul_le_mul hK.2 hz.2) (by decide)
  have hmul : (K : Int) * (z : Int) = ((K * z : Nat) : Int) := by simp
  have hm1 : 0 ≤ (K : Int) * (z : Int) := by rw [hmul]; omega
  have hm2 : (K : Int) * (z : Int) ≤ 320 := by rw [hmul]; omega
  have hc1 : ¬ (K : Int) * (z : Int) < (o.size : Int) + 2 := by rw [hmul]; omega
  have hma := fun W => may_below K M O S W
  have hmay : mayB K M O S = true := by simp [mayB]; omega
  rw [hmay] at hma
  have hds := cutTo_size (objT (K * z) o) z K (by rw [objT_size _ _ ho]; exact Nat.le_refl _)
  have hdl := cutTo_length (objT (K * z) o) z K
  obtain ⟨hsh, h0s⟩ := shape_made hdl (by omega) hds hz
  have hda := fun W => data_any M O S K z (K * z) o W hz hK.2 rfl ho
  have hwo := fun v W h => rword_ok K M O S v (cutTo (objT (K * z) o) z K) W hK hM hO hS hsh h
  rw [h0s] at hwo
  have hPl : (objWord K M O S z o).length = K + M := by unfold objWord; rw [knownTo_length, hdl]
  have hPs : ∀ x ∈ objWord K M O S z o, x.size = z := knownTo_size hds M
  have hPe : knownTo (cutTo (objT (K * z) o) z K) (rowOf K M O S) z M = objWord K M O S z o := rfl
  rw [hPe] at hwo
  clear hPe h0s hsh hmul hds hmay
  generalize objWord K M O S z o = P at *
  generalize cutTo (objT (K * z) o) z K = D at *
  obtain ⟨j0, gi, gz0, gz1, gz2⟩ := info_parts Tryz.infoText
  have hsp : (w.alloc (specB K M O S)).heap[w.heap.size]? = some (specB K M O S) := heap_alloc_new w _
  have hbA : Below w.heap.size w (w.alloc (specB K M O S)) := (Below.refl _ _).alloc (Nat.le_refl _) _
  go_enter Tryz.func78, Tryz.ntmps78
  go_wp2_with fail
  refine (hma _).mono ?_
  rintro e w1 ⟨rfl, hb1⟩
  have hs1 := block_on hsp hb1
  have hbw1 := hbA.trans (hb1.mono hbA.size)
  clear hsp hbA hb1 hma
  obtain ⟨c0, c1, c2, c3⟩ := spec_cells hs1
  have z1 : ¬ (z : Int) < 1 := by omega
  have z2 : ¬ (16 : Int) < (z : Int) := by omega
  go_wp2_with fail
  go_region_held3 (fun w' => w'.cell? ⟨w.heap.size, 0, none⟩ = some (.int .i64 (K : Int)) ∧ w'.cell? ⟨w.heap.size, 1, none⟩ = some (.int .i64 (M : Int)) ∧ w'.cell? ⟨w.heap.size, 2, none⟩ = some (.int .i64 (O : Int)) ∧ w'.cell? ⟨w.heap.size, 3, none⟩ = some (.int .i64 (S : Int)))
    (first | (exact ⟨d0, d1, d2, d3⟩) | (exact ⟨e0, e1, e2, e3⟩) | go_keep)
    (first
      | (go_at_call 107; refine (hda _).mono ?_; rintro e w2 ⟨v2, rfl, hown2, hb2⟩; obtain ⟨d0, d1, d2, d3⟩ := spec_cells (block_on (w := w1.drew) hs1 hb2))
      | (go_at_call 76; refine (hwo _ _ (owns_texts hown2 hdl.symm)).mono ?_; rintro e w3 ⟨v3, rfl, hown3, hb3⟩; obtain ⟨g, cap, rfl, hg, hgl⟩ := hown3.form (by omega); obtain ⟨e0, e1, e2, e3⟩ := spec_cells (block_on (block_on (w := w1.drew) hs1 hb2) hb3)))
  have hs3 : w3.heap[w.heap.size]? = some (specB K M O S) := block_on (block_on (w := w1.drew) hs1 hb2) hb3
  have hb12 : Below w.heap.size w w2 := hbw1.drew.trans (Below.mono hb2 hbw1.size)
  have hbw3 : Below w.heap.size w w3 := hb12.trans (hb3.mono hb12.size)
  have htx := owns_texts hown3 hPl.symm
  clear d0 d1 d2 d3 e0 e1 e2 e3 hb2 hb3 hb12 hown2 c0 c1 c2 c3 hs1 hbw1 hda hwo hown3
  rename_i hheld
  clear hheld
  have hTc : ∀ k, k < K + M → w3.cell? ⟨g, k, none⟩ = some (.string (P.getD k ByteArray.empty)) := by
    obtain ⟨ao, cap', hv', _, hT⟩ := htx
    injection hv' with hv1 hv2 hv3
    intro k hk
    obtain ⟨q, o1, hq1, hq2, hq3⟩ := hT k (by omega)
    rw [hq1] at hv1
    injection hv1 with hv1
    injection hv1 with hb1 ho1
    subst hb1 ho1
    rw [Nat.zero_add] at hq3
    exact hq3
  have HT := hide hTc
  clear hTc htx
  have hw3 := hbw3.size
  go_wp2_with fail
  go_loopw [9, 41] (fun ov t wr => ∃ i : Nat, i ≤ K + M ∧ t = .int .i64 i ∧ wr.ownsRow w3.heap.size 9 1 ov i (textV (packTo K M O S z P i)) ∧ Below w3.heap.size w3 wr) (fun _ t _ => K + M - (intOf t).toNat)
  case atStart => exact ⟨0, Nat.zero_le _, rfl, World.ownsRow_nil _ _ _ _, Below.refl _ _⟩
  case round =>
    obtain ⟨i, hiM, rfl, hown, hbr⟩ := hrel
    have hwr := hbr.size
    by_cases hlt : i < K + M
    · have hcl : wr.cell? ⟨g, i, none⟩ = some (.string (P.getD i ByteArray.empty)) := by
        rw [← HT.out i hlt]; exact hbr.cell hgl
      have hpm : P.getD i ByteArray.empty ∈ P := by
        rw [List.getD_eq_getElem?_getD, List.getElem?_eq_getElem (by omega)]; exact List.getElem_mem _
      have hps := hPs _ hpm
      have hpk : packTo K M O S z P (i + 1) = packTo K M O S z P i ++ [packB K M O S z i (P.getD i ByteArray.empty)] := rfl
      have Hpk := hide hpk
      clear hpk hpm
      generalize P.getD i ByteArray.empty = p at *
      obtain ⟨c0, c1, c2, c3⟩ := spec_cells (block_on hs3 hbr)
      go_wp2_with fail
      refine (packet_any K M O S z i p wr hK.2 hM.2 (by omega) hS (by omega) (by omega) (by omega)).mono ?_
      rintro e w4 ⟨rfl, hb4⟩
      have hown4 := owns_below hown hb4
      have hbr4 := hbr.trans (hb4.mono hbr.size)
      have hw4 := hbr4.size
      clear hb4 hown hbr c0 c1 c2 c3 hcl
      generalize packB K M O S z i p = pk at *
      go_wp2_with (at_builtin; refine wpList_append_lies _ rfl (.tmp 51) (.tmp 53) 27 rfl w3.heap.size 9 j0 (.string ByteArray.empty) 1 16 Tryz.underlying27 gi gz0 gz1 gz2 rfl (by decide) _ _ _ rfl (hown4.alloc _) ⟨w4.heap.size, 0, none⟩ 1 1 [.string pk] rfl rfl (one_news _ _ _) (one_oneCell rfl) (by decide) (by unfold maxLen; omega) (by omega) (by simp; omega) (w4.heap.size + 1) (by simp) ?_)
      intro g5 cap5 w5 hown5 hgr5 hat5 hlt5
      have hb5 : Below w3.heap.size w3 w5 := hbr4.grown (grownBy_of_alloc hgr5) hbr4.size (fun k e => (hown4.lt k e).1)
      clear hown4 hbr4 hgr5 hat5
      go_wp2_with fail
      go_roundw
      case rel => exact ⟨i + 1, by omega, by go_num, by rw [Hpk.out, textV_append]; exact hown5, hb5⟩
      case measure => simp [intOf]; omega
    · have hii : i = K + M := by omega
      subst hii
      have hff := hbw3.trans (hbr.mono hw3)
      have hof := owns_low hown hw3
      have hcf : ¬ ((K + M : Nat) : Int) < (K : Int) + (M : Int) := by omega
      go_wp2_with fail
      go_ret2
      exact ⟨_, rfl, hof, hff⟩

end Go.Proofs.YtnjaofkieajnlaaGreat

/- The document's own Object: whose data these are. -/
namespace Go.Proofs.YtnjaofkieajnlaaGreat
open Go.RowKit

/-- The first texts of a list, joined. -/
def catTo (l : List ByteArray) : Nat → ByteArray
  | 0 => ByteArray.empty
  | i + 1 => catTo l i ++ l.getD i ByteArray.empty

theorem catTo_le (l : List ByteArray) (i d : Nat) : (catTo l i).size ≤ (catTo l (i + d)).size := by
  induction d with
  | zero => exact Nat.le_refl _
  | succ d ih =>
    show _ ≤ (catTo l (i + d) ++ l.getD (i + d) ByteArray.empty).size
    rw [ByteArray.size_append]
    omega

/-- The length that data tell. -/
def objLen (t : ByteArray) : Nat := (byteAt t 0).toNat + 256 * (byteAt t 1).toNat

/-- The object of data. -/
def objText (t : ByteArray) : ByteArray := if objLen t + 2 ≤ t.size then t.extract 2 (2 + objLen t) else ByteArray.empty

/-- Whether data are an object's. -/
def objOk (t : ByteArray) : Bool := if objLen t + 2 ≤ t.size then decide (t.extract (2 + objLen t) t.size = zeroB (t.size - (2 + objLen t))) else false

set_option maxRecDepth 100000 in
set_option maxHeartbeats 8000000 in
theorem robject_any (v : Value) (l : List ByteArray) (t : ByteArray) (w : World) (ht : TextsAt w v l) (hll : l.length ≤ 1000) (hct : catTo l l.length = t) (hts : t.size ≤ 1000) :
    Calls Tryz.prog 62 #[v] w fun e w' => e = .returned (.tuple #[.string (objText t), .bool (objOk t)]) ∧ Below w.heap.size w w' := by
  obtain ⟨ao, cap, rfl, hcap, hc⟩ := ht
  have HC := hide hc
  have HT := hide hct
  have hot : objText t = if objLen t + 2 ≤ t.size then t.extract 2 (2 + objLen t) else ByteArray.empty := rfl
  have hok : objOk t = if objLen t + 2 ≤ t.size then decide (t.extract (2 + objLen t) t.size = zeroB (t.size - (2 + objLen t))) else false := rfl
  have HO1 := hide hot
  have HO2 := hide hok
  have hlen : objLen t = (byteAt t 0).toNat + 256 * (byteAt t 1).toNat := rfl
  generalize objText t = r1 at *
  generalize objOk t = r2 at *
  generalize objLen t = L at *
  have HL := hide hlen
  clear hc hct hot hok hlen
  go_enter Tryz.func62, Tryz.ntmps62
  go_wp2_with fail
  go_loop [4, 13] (fun tv iv => ∃ k : Nat, k ≤ l.length ∧ iv = .int .i64 (k : Int) ∧ tv = .string (catTo l k)) (fun _ iv => l.length - (intOf iv).toNat)
  case atStart => exact ⟨0, Nat.zero_le _, rfl, rfl⟩
  case round =>
    obtain ⟨k, hk, rfl, rfl⟩ := hrel
    by_cases hlt : k < l.length
    · obtain ⟨q, o, rfl, hq, hcell⟩ := HC.out k hlt
      have hnx : catTo l (k + 1) = catTo l k ++ l.getD k ByteArray.empty := rfl
      have Hnx := hide hnx
      have hle := catTo_le l (k + 1) (l.length - (k + 1))
      rw [show k + 1 + (l.length - (k + 1)) = l.length by omega, HT.out, hnx, ByteArray.size_append] at hle
      clear hnx
      generalize l.getD k ByteArray.empty = p at *
      generalize catTo l k = tk at *
      go_wp2_with fail
      go_round
      case rel => exact ⟨k + 1, by omega, by go_num, by rw [Hnx.out]⟩
      case measure => simp [intOf]; omega
    · have hkk : k = l.length := by omega
      subst hkk
      rw [HT.out]
      clear HT HC
      go_wp2_with fail
      go_loop [7] (fun nv => ∃ n : Nat, n ≤ L ∧ n ≤ 1000 ∧ nv = .int .i64 (n : Int)) (fun nv => 1001 - (intOf nv).toNat)
      case atStart => exact ⟨0, Nat.zero_le _, Nat.zero_le _, rfl⟩
      case round =>
        obtain ⟨n, hnL, hn1, rfl⟩ := hrel
        by_cases hn2 : n + 2 ≤ t.size
        · have g0 := byteAt_get t 0 (by omega)
          have g1 := byteAt_get t 1 (by omega)
          have b0 := (byteAt t 0).toNat_lt
          have b1 := (byteAt t 1).toNat_lt
          have hand : bits BinOp.and IntKind.i64 (n : Int) 255 = ((n % 256 : Nat) : Int) := by
            rw [show (255 : Int) = ((255 : Nat) : Int) from rfl, i64_and_nat n 255 (by omega) (by omega), show (255 : Nat) = 2 ^ 8 - 1 from rfl, Nat.and_two_pow_sub_one_eq_mod]
          have i1 : (1 : Int) < (t.size : Int) := by omega
          have i0 : (0 : Int) < (t.size : Int) := by omega
          by_cases hnl : n = L
          · subst hnl
            have y0 : ((byteAt t 0).toNat : Int) = ((n % 256 : Nat) : Int) := by have := HL.out; omega
            have y1 : (((byteAt t 1).toNat : Int) == (n : Int) / 256) = true := by have := HL.out; simp; omega
            have hnt := fun W => noughts_any (t.size - (2 + n)) W (by omega)
            have hr1 : r1 = t.extract 2 (2 + n) := by rw [HO1.out, if_pos hn2]
            have hr2 : r2 = decide (t.extract (2 + n) t.size = zeroB (t.size - (2 + n))) := by rw [HO2.out, if_pos hn2]
            have hes : (t.extract (2 + n) t.size).size = t.size - (2 + n) := by rw [ByteArray.size_extract]; omega
            have HR1 := hide hr1
            have HR2 := hide hr2
            clear hr1 hr2 HO1 HO2 HL
            by_cases hz : t.extract (2 + n) t.size = zeroB (t.size - (2 + n))
            · have hzb : ((t.extract (2 + n) t.size).toList == (zeroB (t.size - (2 + n))).toList) = true := by rw [hz]; simp
              have Hz := hide hz
              clear hz
              go_wp2_with fail
              generalize t.extract (2 + n) t.size = rs at *
              generalize zeroB (t.size - (2 + n)) = zs at *
              go_quiet (first | (go_at_call 54; refine Calls.quiet_of_same (hnt _)))
              go_wp2_with fail
              go_ret2
              exact ⟨by rw [HR1.out, HR2.out, decide_eq_true Hz.out]; rfl, ⟨rfl, rfl, rfl, Nat.le_refl _, fun _ _ => rfl⟩⟩
            · have hzb := beq_bytes hz
              have Hz := hide hz
              clear hz
              go_wp2_with fail
              generalize t.extract (2 + n) t.size = rs at *
              generalize zeroB (t.size - (2 + n)) = zs at *
              go_quiet (first | (go_at_call 54; refine Calls.quiet_of_same (hnt _)))
              go_wp2_with fail
              go_ret2
              exact ⟨by rw [HR1.out, HR2.out, decide_eq_false Hz.out]; rfl, ⟨rfl, rfl, rfl, Nat.le_refl _, fun _ _ => rfl⟩⟩
          · have hor : ((byteAt t 0).toNat ≠ n % 256) ∨ ((byteAt t 0).toNat = n % 256 ∧ (byteAt t 1).toNat ≠ n / 256) := by have := HL.out; omega
            rcases hor with hx | ⟨hx, hy⟩
            · have y0 : (((byteAt t 0).toNat : Int) == ((n % 256 : Nat) : Int)) = false := by simp; omega
              go_wp2_with fail
              go_round
              case rel => exact ⟨n + 1, by omega, by omega, by go_num⟩
              case measure => simp [intOf]; omega
            · have y0 : ((byteAt t 0).toNat : Int) = ((n % 256 : Nat) : Int) := by omega
              have y1 : (((byteAt t 1).toNat : Int) == (n : Int) / 256) = false := by simp; omega
              go_wp2_with fail
              go_round
              case rel => exact ⟨n + 1, by omega, by omega, by go_num⟩
              case measure => simp [intOf]; omega
        · have hr1 : r1 = ByteArray.empty := by rw [HO1.out, if_neg (by omega)]
          have hr2 : r2 = false := by rw [HO2.out, if_neg (by omega)]
          have HR1 := hide hr1
          have HR2 := hide hr2
          clear hr1 hr2 HO1 HO2 HL
          go_wp2_with fail
          go_ret2
          exact ⟨by rw [HR1.out, HR2.out]; rfl, Below.refl _ _⟩

end Go.Proofs.YtnjaofkieajnlaaGreat

/- The document's own Put. -/
namespace Go.Proofs.YtnjaofkieajnlaaGreat
open Go.RowKit

set_option maxRecDepth 100000 in
set_option maxHeartbeats 4000000 in
theorem rput_arg (r K M O S z : Nat) (i : Int) (t : ByteArray) (av pv : Value) (w : World) (hK : K ≤ 20) (hM : M ≤ 20) (hi : i < 0 ∨ (K : Int) + (M : Int) ≤ i) (hbox : w.heap[r]? = some (rboxB K M O S z av pv)) :
    Calls Tryz.prog 27 #[.pointer (some ⟨r, 0, none⟩), .int .i64 i, .string t] w fun e w' => e = .returned (.int .i64 2) ∧ Below w.heap.size w w' := by
  obtain ⟨c0, c1, c2, c3, c4, c5, c6, hr⟩ := rbox_cells hbox
  have hbd : ∀ n, Below w.heap.size w (w.drewN n) := fun n => ((Chg.refl (fun _ => False) w).drewN n).below (fun _ _ x => x)
  go_enter Tryz.func27, Tryz.ntmps27
  by_cases h0 : i < 0
  · have hd : decide (i < 0) = true := decide_eq_true h0
    go_wp2_with fail
    go_quiet (fail)
    all_goals
      go_wp2_with fail
      go_ret
      exact ⟨rfl, hbd _⟩
  · have hd : decide (i < 0) = false := decide_eq_false h0
    have hd2 : (K : Int) + (M : Int) ≤ i := by omega
    go_wp2_with fail
    go_quiet (fail)
    all_goals
      go_wp2_with fail
      go_ret
      exact ⟨rfl, hbd _⟩

set_option maxRecDepth 100000 in
set_option maxHeartbeats 4000000 in
theorem rput_shape (r K M O S z i : Nat) (t : ByteArray) (av pv : Value) (w : World) (hK : K ≤ 20) (hM : M ≤ 20) (hi : i < K + M) (ht : t.size ≠ z) (hbox : w.heap[r]? = some (rboxB K M O S z av pv)) :
    Calls Tryz.prog 27 #[.pointer (some ⟨r, 0, none⟩), .int .i64 (i : Int), .string t] w fun e w' => e = .returned (.int .i64 3) ∧ Below w.heap.size w w' := by
  obtain ⟨c0, c1, c2, c3, c4, c5, c6, hr⟩ := rbox_cells hbox
  have hbd : ∀ n, Below w.heap.size w (w.drewN n) := fun n => ((Chg.refl (fun _ => False) w).drewN n).below (fun _ _ x => x)
  have hd : decide ((i : Int) < 0) = false := decide_eq_false (by omega)
  have hd2 : ¬ (K : Int) + (M : Int) ≤ (i : Int) := by omega
  have hb : ((t.size : Int) != (z : Int)) = true := by simp; omega
  go_enter Tryz.func27, Tryz.ntmps27
  go_wp2_with fail
  go_quiet (fail)
  all_goals
    go_wp2_with fail
    go_ret
    exact ⟨rfl, hbd _⟩

set_option maxRecDepth 100000 in
set_option maxHeartbeats 8000000 in
theorem rput_told (r K M O S z i : Nat) (t : ByteArray) (av pv : Value) (ps : List (Nat × ByteArray)) (w : World) (hK : 1 ≤ K ∧ K ≤ 20) (hM : 1 ≤ M ∧ M ≤ 20) (hO : 1 ≤ O ∧ O ≤ M) (hS : S ≤ 65535) (hz : 0 < z ∧ z ≤ 1000)
    (hbox : RBoxAt w r K M O S z av pv ps) (hps : ps.length ≤ 900) (hin : ∀ x ∈ ps, x.1 < K + M ∧ x.2.size = z) (hi : i < K + M) (ht : t.size = z) (htd : (told (boxFacts K M O S z ps) (2 ^ i) z).2 = true) :
    Calls Tryz.prog 27 #[.pointer (some ⟨r, 0, none⟩), .int .i64 (i : Int), .string t] w fun e w' => e = .returned (.int .i64 (if (told (boxFacts K M O S z ps) (2 ^ i) z).1 = t then 0 else 4)) ∧ Below w.heap.size w w' := by
  obtain ⟨c0, c1, c2, c3, c4, c5, c6, hr⟩ := rbox_cells hbox.box
  have hbd : ∀ n, Below w.heap.size w (w.drewN n) := fun n => ((Chg.refl (fun _ => False) w).drewN n).below (fun _ _ x => x)
  have hd : decide ((i : Int) < 0) = false := decide_eq_false (by omega)
  have hd2 : ¬ (K : Int) + (M : Int) ≤ (i : Int) := by omega
  have hb : ((t.size : Int) != (z : Int)) = false := by simp; omega
  have hget := fun w hb hA hP => rget_any r K M O S z i av pv ps w hK hM hO hS hz hb hA hP hps hin (by omega)
  rw [htd] at hget
  clear htd
  generalize (told (boxFacts K M O S z ps) (2 ^ i) z).1 = s at *
  go_enter Tryz.func27, Tryz.ntmps27
  by_cases he : s = t
  · subst he
    rw [if_pos rfl]
    go_wp2_with fail
    go_quiet (fail)
    all_goals
      go_wp2_with fail
      refine (hget _ (hbox.on (Nat.le_refl _) (hbd _)).box (hbox.on (Nat.le_refl _) (hbd _)).nums (hbox.on (Nat.le_refl _) (hbd _)).texts).mono ?_
      rintro e w1 ⟨rfl, hb1⟩
      have hb2 := (hbd nq).trans (Below.mono hb1 (hbd nq).size)
      clear hget hb1 hbox c0 c1 c2 c3 c4 c5 c6
      go_wp2_with fail
      go_ret
      exact ⟨rfl, hb2⟩
  · rw [if_neg he]
    have hne := beq_bytes he
    go_wp2_with fail
    go_quiet (fail)
    all_goals
      go_wp2_with fail
      refine (hget _ (hbox.on (Nat.le_refl _) (hbd _)).box (hbox.on (Nat.le_refl _) (hbd _)).nums (hbox.on (Nat.le_refl _) (hbd _)).texts).mono ?_
      rintro e w1 ⟨rfl, hb1⟩
      have hb2 := (hbd nq).trans (Below.mono hb1 (hbd nq).size)
      clear hget hb1 hbox c0 c1 c2 c3 c4 c5 c6
      go_wp2_with fail
      go_ret
      exact ⟨rfl, hb2⟩

end Go.Proofs.YtnjaofkieajnlaaGreat

namespace Go.Proofs.YtnjaofkieajnlaaGreat
open Go.RowKit

set_option maxRecDepth 100000 in
set_option maxHeartbeats 8000000 in
theorem rput_new (r K M O S z i : Nat) (t : ByteArray) (av pv : Value) (ps : List (Nat × ByteArray)) (w : World) (hK : 1 ≤ K ∧ K ≤ 20) (hM : 1 ≤ M ∧ M ≤ 20) (hO : 1 ≤ O ∧ O ≤ M) (hS : S ≤ 65535) (hz : 0 < z ∧ z ≤ 1000)
    (hbox : RBoxAt w r K M O S z av pv ps) (hps : ps.length ≤ 900) (hin : ∀ x ∈ ps, x.1 < K + M ∧ x.2.size = z) (hi : i < K + M) (ht : t.size = z) (htd : (told (boxFacts K M O S z ps) (2 ^ i) z).2 = false) :
    Calls Tryz.prog 27 #[.pointer (some ⟨r, 0, none⟩), .int .i64 (i : Int), .string t] w fun e w' => e = .returned (.int .i64 0) ∧ ∃ av' pv', RBoxAt w' r K M O S z av' pv' (ps ++ [(i, t)]) ∧ Chg (fpR r av pv) w w' ∧ (∀ k, fpR r av' pv' k → fpR r av pv k ∨ w.heap.size ≤ k) := by
  obtain ⟨c0, c1, c2, c3, c4, c5, c6, hr⟩ := rbox_cells hbox.box
  have hbd : ∀ n, Below w.heap.size w (w.drewN n) := fun n => ((Chg.refl (fun _ => False) w).drewN n).below (fun _ _ x => x)
  have hd : decide ((i : Int) < 0) = false := decide_eq_false (by omega)
  have hd2 : ¬ (K : Int) + (M : Int) ≤ (i : Int) := by omega
  have hb : ((t.size : Int) != (z : Int)) = false := by simp; omega
  have hget := fun w hb hA hP => rget_any r K M O S z i av pv ps w hK hM hO hS hz hb hA hP hps hin (by omega)
  rw [htd] at hget
  clear htd
  generalize (told (boxFacts K M O S z ps) (2 ^ i) z).1 = s at *
  obtain ⟨i0, hii, hz0, hz1, hz2⟩ := info_parts Tryz.infoInt
  obtain ⟨j0, gi, gz0, gz1, gz2⟩ := info_parts Tryz.infoText
  go_enter Tryz.func27, Tryz.ntmps27
  go_wp2_with fail
  go_quiet (fail)
  all_goals
    go_wp2_with fail
    refine (hget _ (hbox.on (Nat.le_refl _) (hbd _)).box (hbox.on (Nat.le_refl _) (hbd _)).nums (hbox.on (Nat.le_refl _) (hbd _)).texts).mono ?_
    rintro e w1 ⟨rfl, hb1⟩
    have hb2 : Below w.heap.size w w1 := (hbd nq).trans (Below.mono hb1 (hbd nq).size)
    have hbx := hbox.on (Nat.le_refl _) hb2
    clear hget hb1 c0 c1 c2 c3 c4 c5 c6
    obtain ⟨c0, c1, c2, c3, c4, c5, c6, hr1⟩ := rbox_cells hbx.box
    have z5 := found_frozen hbx.box 5
    clear c0 c1 c2 c3 c4
    go_wp2_with (at_builtin; refine wpList_append_lies _ rfl (.tmp 51) (.tmp 53) 63 rfl 0 3 i0 (.int .i64 0) 1 8 Tryz.underlying63 hii hz0 hz1 hz2 rfl (by decide) _ _ _ rfl (hbx.oa.alloc _) ⟨w1.heap.size, 0, none⟩ 1 1 [.int .i64 (i : Int)] rfl rfl (one_news _ _ _) (one_oneCell rfl) (by decide) (by unfold maxLen; omega) (by omega) (Nat.zero_le _) (w1.heap.size + 1) (by simp) ?_)
    intro g cap w2 hown2 hgr2 hat2 hlt2
    have hgr := grownBy_of_alloc hgr2
    obtain ⟨hr2, hoa2, hop2, hcg2⟩ := rpush_at hbx hgr hown2
    have hra := owns_other hbx.oa hbx.box (by decide)
    have hr0 : w2.heap[r]? = some (rboxB K M O S z av pv) := by rw [hgr.block r hr1 (fun e => hra e.symm)]; exact hbx.box
    have hfp2 : ∀ k, (.slice (some ⟨g, 0, none⟩) (ps.length + 1) cap : Value).ownBlock = some k → fpR r av pv k ∨ w.heap.size ≤ k := fun k hk => by
      have : g = k := by simpa [Value.ownBlock] using hk
      subst this
      rcases hat2 with h | h
      · exact Or.inl (Or.inr (Or.inl h))
      · right; have := hb2.size; omega
    have hs2 : w1.heap.size ≤ w2.heap.size := hgr.size
    obtain ⟨d0, d1, d2, d3, d4, d5, d6, hr3⟩ := rbox_cells hr0
    have y5 := found_frozen hr0 5
    have y6 := found_frozen hr0 6
    clear d0 d1 d2 d3 d4 hown2 hgr2 hgr hat2 c5 c6 z5 hra hr0
    go_wp2_with (at_builtin; refine wpList_append_lies _ rfl (.tmp 61) (.tmp 63) 27 rfl 0 9 j0 (.string ByteArray.empty) 1 16 Tryz.underlying27 gi gz0 gz1 gz2 rfl (by decide) _ _ _ rfl (hop2.alloc _) ⟨w2.heap.size, 0, none⟩ 1 1 [.string t] rfl rfl (by have h := one_news (w2.setCell ⟨r, 5, none⟩ (.slice (some ⟨g, 0, none⟩) (ps.length + 1) cap)) (.string t) 9; simpa using h) (one_oneCell rfl) (by decide) (by unfold maxLen; omega) (by omega) (Nat.zero_le _) (w2.heap.size + 1) (by simp) ?_)
    intro g3 cap3 w3 hown3 hgr3 hat3 hlt3
    have hgr := grownBy_of_alloc hgr3
    obtain ⟨hr4, hoa4, hop4, hcg4⟩ := rpush_piece hr2 hoa2 hop2 hgr hown3
    have hrp := owns_other hop2 hr2 (by decide)
    have hr5 : w3.heap[r]? = some (rboxB K M O S z (.slice (some ⟨g, 0, none⟩) (ps.length + 1) cap) pv) := by rw [hgr.block r (by simp [World.setCell]; omega) (fun e => hrp e.symm)]; exact hr2
    have hfin : ∃ av' pv', RBoxAt (w3.setCell ⟨r, 6, none⟩ (.slice (some ⟨g3, 0, none⟩) (ps.length + 1) cap3)) r K M O S z av' pv' (ps ++ [(i, t)]) ∧ Chg (fpR r av pv) w (w3.setCell ⟨r, 6, none⟩ (.slice (some ⟨g3, 0, none⟩) (ps.length + 1) cap3)) ∧ (∀ k, fpR r av' pv' k → fpR r av pv k ∨ w.heap.size ≤ k) := by
      refine ⟨_, _, ⟨hr4, ?_, ?_⟩, ?_, ?_⟩
      · simpa [numsV] using hoa4
      · simpa [textV] using hop4
      · refine ((Chg.of_below hb2 (fpR r av pv)).trans hcg2 (fun _ _ h => h)).trans hcg4 (fun k _ hk => ?_)
        rcases hk with hk | hk
        · exact Or.inl hk
        · exact Or.inr (Or.inr hk)
      · intro k hk
        rcases hk with hk | hk | hk
        · exact Or.inl (Or.inl hk)
        · exact hfp2 k hk
        · have : g3 = k := by simpa [Value.ownBlock] using hk
          subst this
          rcases hat3 with h | h
          · exact Or.inl (Or.inr (Or.inr h))
          · right; have := hb2.size; omega
    obtain ⟨e0, e1, e2, e3, e4, e5, e6, hr6⟩ := rbox_cells hr5
    have x6 := found_frozen hr5 6
    clear e0 e1 e2 e3 e4 e5 hown3 hgr3 hgr hat3 d5 d6 y5 y6 hrp hr5 hr4 hoa4 hop4 hcg4 hr2 hoa2 hop2 hcg2 hfp2 hbx hbox
    go_wp2_with fail
    go_ret
    exact ⟨rfl, hfin⟩

end Go.Proofs.YtnjaofkieajnlaaGreat
