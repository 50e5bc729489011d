/- Texts of the proof, part 18. -/
import Derived.Laws.ResultCell
import Derived.Test.YtnjaofkieajnlaaKnownG13
import Derived.Test.YtnjaofkieajnlaaKnownG15
import Derived.Test.YtnjaofkieajnlaaKnownG16
import Derived.Test.YtnjaofkieajnlaaKnownG6
import Derived.Test.YtnjaofkieajnlaaKnownG7

/- The program's large objects: the sheets of all parts. -/
namespace Go.Proofs.Ytnjaofkieajnlaa
open Go.RowKit

theorem run_make_mul (a b : Nat) (hn : a * b ≤ 1000000) (w : World) : (Instr.makeSlice 28 (.int .i64 0) (.int .i64 ((a : Int) * (b : Int)))).run Try.prog w = .ok (.slice (some ⟨w.heap.size, 0, none⟩) 0 (a * b)) (w.alloc (.cells (madeCells #[.string ByteArray.empty] (a * b)) 9)) := by
  have h := run_make_texts (a * b) hn w
  rw [show ((a * b : Nat) : Int) = (a : Int) * (b : Int) by simp] at h
  exact h

set_option maxRecDepth 100000 in
set_option maxHeartbeats 8000000 in
theorem lsheets_any (K M O S z : Nat) (t : ByteArray) (c : Nat) (v : Value) (w : World) (h : SpecOk K M O S z) (h3 : 3 ≤ K * z) (hc : c = partsN t (K * z - 2)) (hc2 : c ≤ 20) (hL : TextsAt w v (cutL t (K * z - 2) c)) :
    Calls Try.prog 82 #[specV K M O S, .int .i64 (z : Int), v] w fun e w' => ∃ v', e = .returned (.tuple #[v', .int .i64 0]) ∧ w'.ownsRow w.heap.size 9 1 v' (c * (K + M)) (textV (sheetsTo K M O S z c t c)) ∧ Below w.heap.size w w' := by
  obtain ⟨hK, hM, hO, hS, hz⟩ := h
  obtain ⟨n, hn⟩ : ∃ n, n = K * z - 2 := ⟨_, rfl⟩
  have hn1 : 1 ≤ n := by omega
  have hc1 : 1 ≤ c := by rw [hc]; exact partsN_pos t _ (by omega)
  have hse := fun p (hp : p < c) W => osend_ok K M O S z (partT t n p) W hK hM hO hS hz (by have := (partT_in t n p hn1 (by rw [hn, ← hc]; exact hp)).2; omega)
  have hsz : ∀ p, p < c → (partT t n p).size + 2 ≤ K * z := fun p hp => by have := (partT_in t n p hn1 (by rw [hn, ← hc]; exact hp)).2; omega
  have hst : ∀ p, sheetsTo K M O S z c t (p + 1) = sheetsTo K M O S z c t p ++ sheetTo p c (packTo K M O S z (objWord K M O S z (partT t n p)) (K + M)) (K + M) := fun p => by
    show sheetsTo K M O S z c t p ++ sheetTo p c (partL K M O S z t p) (K + M) = _
    unfold partL
    rw [← hn]
  have hlen := fun p => sheetsTo_length K M O S z c t p
  obtain ⟨ao, cap, rfl, hcap, hT⟩ := hL
  rw [cutL_length] at hcap hT ⊢
  rw [← hn] at hT
  have hT2 : ∀ k, k < c → ∃ q o, ao = some ⟨q, o, none⟩ ∧ q < w.heap.size ∧ w.cell? ⟨q, o + k, none⟩ = some (.string (partT t n k)) := fun k hk => by
    obtain ⟨q, o, e1, e2, e3⟩ := hT k hk
    exact ⟨q, o, e1, e2, by rw [e3, cutL_getD _ _ _ _ hk]⟩
  have hcb : c * (K + M) ≤ 800 := Nat.le_trans (Nat.mul_le_mul hc2 (show K + M ≤ 40 by omega)) (by decide)
  have hmk := run_make_mul c (K + M) (by omega)
  rw [show ((K + M : Nat) : Int) = (K : Int) + (M : Int) by omega] at hmk
  have m1 : 0 ≤ (c : Int) * ((K : Int) + (M : Int)) := Int.mul_nonneg (by omega) (by omega)
  have m2 : (c : Int) * ((K : Int) + (M : Int)) ≤ 800 := by
    have : (c : Int) * ((K : Int) + (M : Int)) = ((c * (K + M) : Nat) : Int) := by simp
    omega
  have HT := hide hT2
  have Hst := hide hst
  have Hlen := hide hlen
  clear hT hT2 hst hlen hn hc
  obtain ⟨j0, gi, gz0, gz1, gz2⟩ := info_parts Try.infoText
  have hsp : (w.alloc (specB K M O S)).heap[w.heap.size]? = some (specB K M O S) := heap_alloc_new w _
  have hbA : Below w.heap.size w (w.alloc (specB K M O S)) := (Below.refl _ _).alloc (Nat.le_refl _) _
  have hcell : ∀ k, k < c → ∃ q o, ao = some ⟨q, o, none⟩ ∧ q < w.heap.size := fun k hk => by
    obtain ⟨q, o, e1, e2, _⟩ := HT.out k hk
    exact ⟨q, o, e1, e2⟩
  obtain ⟨q, o, rfl, hq⟩ := hcell 0 (by omega)
  clear hcell
  obtain ⟨c0, c1, _, _⟩ := spec_cells hsp
  go_enter Try.func82, Try.ntmps82
  generalize hWA : w.alloc (specB K M O S) = WA at *
  have hsA : w.heap.size < WA.heap.size := (Array.getElem?_eq_some_iff.1 hsp).1
  go_upto_region 2 with fail
  have hst0 : (WA.alloc (.cells (madeCells #[.string ByteArray.empty] (c * (K + M))) 9)).ownsRow (w.heap.size + 1) 9 1 (.slice (some ⟨WA.heap.size, 0, none⟩) 0 (c * (K + M))) 0 (textV (sheetsTo K M O S z c t 0)) := World.ownsRow_made (base := w.heap.size + 1) (e := 9) (size := 1) WA (madeCells #[.string ByteArray.empty] (c * (K + M))) (c * (K + M)) (by omega) (by unfold maxLen; omega) (by simp [size_madeCells])
  have hbS : Below w.heap.size w (WA.alloc (.cells (madeCells #[.string ByteArray.empty] (c * (K + M))) 9)) := hbA.alloc hbA.size _
  have hsS : (WA.alloc (.cells (madeCells #[.string ByteArray.empty] (c * (K + M))) 9)).heap[w.heap.size]? = some (specB K M O S) := by rw [heap_alloc_old _ _ hsA]; exact hsp
  generalize WA.alloc (.cells (madeCells #[.string ByteArray.empty] (c * (K + M))) 9) = WB at *
  clear hmk m1 m2 hsp hbA c0 c1 hWA hsA
  go_wp2_with fail
  go_loopw [8, 27] (fun av pv wr => ∃ p : Nat, p ≤ c ∧ pv = .int .i64 (p : Int) ∧ wr.ownsRow (w.heap.size + 1) 9 1 av (sheetsTo K M O S z c t p).length (textV (sheetsTo K M O S z c t p)) ∧ wr.heap[w.heap.size]? = some (specB K M O S) ∧ Below w.heap.size w wr) (fun _ pv _ => c - (intOf pv).toNat)
  case atStart => exact ⟨0, Nat.zero_le _, rfl, hst0, hsS, hbS⟩
  case round =>
    clear hst0 hsS hbS
    obtain ⟨p, hpc, rfl, hown, hsr, hbr⟩ := hrel
    have hszr : w.heap.size < wr.heap.size := (Array.getElem?_eq_some_iff.1 hsr).1
    have hlp := Hlen.out p
    have hlb : (sheetsTo K M O S z c t p).length ≤ 800 := by rw [hlp]; exact Nat.le_trans (Nat.mul_le_mul (show p ≤ 20 by omega) (show K + M ≤ 40 by omega)) (by decide)
    clear hlp
    by_cases hlt : p < c
    · have hs := hse p hlt
      obtain ⟨q', o', e1, _, ht0⟩ := HT.out p hlt
      simp only [Option.some.injEq, Addr.mk.injEq, and_true] at e1
      obtain ⟨rfl, rfl⟩ := e1
      have ht1 := (hbr.cell (p := ⟨q, o + p, none⟩) hq).trans ht0
      have hstp := Hst.out p
      have hLl := packTo_length K M O S z (objWord K M O S z (partT t n p)) (K + M)
      have hLs := fun i (hi : i < K + M) => packTo_sizes (K := K) (M := M) (O := O) (S := S) (z := z) (o := partT t n p) (hsz p hlt) hi
      generalize packTo K M O S z (objWord K M O S z (partT t n p)) (K + M) = L at *
      generalize partT t n p = pt at *
      have Hstp := hide hstp
      clear hstp ht0
      obtain ⟨c0, c1, c2, c3⟩ := spec_cells hsr
      obtain ⟨all0, hall0⟩ : ∃ l, l = sheetsTo K M O S z c t p := ⟨_, rfl⟩
      rw [← hall0] at hown hlb Hstp
      clear hall0
      have i1 : (0 : Int) ≤ (p : Int) := by omega
      have i2 : (p : Int) < (c : Int) := by omega
      go_wp2_with fail
      refine (hs _).mono ?_
      rintro e w3 ⟨v3, rfl, hown3, hb3⟩
      obtain ⟨g, gcap, rfl, hg, hgl⟩ := hown3.form (by omega)
      have hTc : ∀ k, k < K + M → w3.cell? ⟨g, k, none⟩ = some (.string (L.getD k ByteArray.empty)) := fun k hk => by
        have := hown3.cells (g := g) rfl k (.string (L.getD k ByteArray.empty)) (by unfold textV; rw [List.getElem?_map, List.getElem?_eq_getElem (by omega), List.getD_eq_getElem?_getD, List.getElem?_eq_getElem (by omega)]; rfl)
        rwa [Addr.add_mid, Nat.zero_add] at this
      have hown4 : w3.ownsRow (w.heap.size + 1) 9 1 u8 all0.length (textV all0) := owns_below hown hb3
      have hs3 : w3.heap[w.heap.size]? = some (specB K M O S) := block_on hsr hb3
      have hbr3 : Below w.heap.size w w3 := hbr.trans (hb3.mono hbr.size)
      have hub : ∀ k, u8.ownBlock = some k → w.heap.size + 1 ≤ k ∧ k < g := fun k hk => by
        have h1 := hown.lt k hk
        have h2 : wr.heap.size ≤ g := hg
        omega
      have hsz3 : wr.heap.size ≤ w3.heap.size := hb3.size
      obtain ⟨ob, hob⟩ : ∃ ob, ob = u8.ownBlock := ⟨_, rfl⟩
      rw [← hob] at hub
      have HTc := hide hTc
      have HLs := hide hLs
      clear hTc hLs c0 c1 c2 c3 hown3 hb3 hown hsr hbr hs ht1
      go_wp2_with fail
      go_loopw [8, 44] (fun av iv wi => ∃ i : Nat, i ≤ K + M ∧ iv = .int .i64 (i : Int) ∧ wi.ownsRow (w.heap.size + 1) 9 1 av (all0.length + i) (textV (all0 ++ sheetTo p c L i)) ∧ (∀ k, av.ownBlock = some k → ob = some k ∨ w3.heap.size ≤ k) ∧ Chg (fun k => ob = some k) w3 wi) (fun _ iv _ => K + M - (intOf iv).toNat)
      case atStart => exact ⟨0, Nat.zero_le _, rfl, by show w3.ownsRow _ _ _ _ _ (textV (all0 ++ [])); rw [List.append_nil]; exact hown4, fun k hk => Or.inl (by rw [hob]; exact hk), Chg.refl _ _⟩
      case round =>
        clear hown4 hob
        obtain ⟨i, hi, rfl, hown, hav, hcg⟩ := hrel
        have hwis := hcg.size
        by_cases hil : i < K + M
        · have ht1 := (hcg.cell (a := ⟨g, i, none⟩) hgl (fun e => by have := hub g e; omega)).trans (HTc.out i hil)
          have hls := HLs.out i hil
          have hsn : all0 ++ sheetTo p c L (i + 1) = (all0 ++ sheetTo p c L i) ++ [sheetB p c (L.getD i ByteArray.empty)] := by rw [List.append_assoc]; rfl
          have Hsn := hide hsn
          clear hsn
          generalize L.getD i ByteArray.empty = pk at *
          have hpk : pk.size ≤ 25 := by omega
          have htx := fun W => ltext_any p c pk W (by omega) (by omega) (by omega)
          clear hls
          generalize sheetB p c pk = T at *
          have i1 : (0 : Int) ≤ (i : Int) := by omega
          have i2 : (i : Int) < (K : Int) + (M : Int) := by omega
          go_wp2_with fail
          refine (htx _).mono ?_
          rintro e w6 ⟨rfl, hb6⟩
          have hown6 := owns_below hown hb6
          have hw6 := hb6.size
          have hcg6 : Chg (fun k => ob = some k) w3 w6 := hcg.trans (Chg.of_below hb6 _) (fun _ _ s => s)
          clear htx ht1 hown hcg
          go_wp2_with (at_builtin; refine wpList_append_lies _ rfl (.tmp 53) (.tmp 55) 28 rfl (w.heap.size + 1) 9 j0 (.string ByteArray.empty) 1 16 Try.underlying28 gi gz0 gz1 gz2 rfl (by decide) _ _ _ rfl (hown6.alloc _) ⟨w6.heap.size, 0, none⟩ 1 1 [.string T] rfl rfl (one_news _ _ _) (one_oneCell rfl) (by decide) (by unfold maxLen; omega) (by omega) (by simp; omega) (w6.heap.size + 1) (by simp) ?_)
          intro g5 cap5 w5 hown5 hgr5 hat5 hlt5
          have hgr := grownBy_of_alloc hgr5
          have hcg5 : Chg (fun k => ob = some k) w3 w5 := hcg6.grown hgr (fun k e => by
            rcases hav k e with h | h
            · exact Or.inr h
            · exact Or.inl h)
          have hav5 : ∀ k, (Value.slice (some ⟨g5, 0, none⟩) (all0.length + i + 1) cap5).ownBlock = some k → ob = some k ∨ w3.heap.size ≤ k := fun k hk => by
            have hk' : g5 = k := by simpa [Value.ownBlock] using hk
            rcases hat5 with h | h
            · exact hav k (by rw [h, hk'])
            · right; omega
          clear hown6 hcg6 hgr5 hgr hat5 hav
          go_wp2_with fail
          go_roundw
          case rel => exact ⟨i + 1, by omega, by go_num, by rw [Hsn.out, textV_append]; exact hown5, hav5, hcg5⟩
          case measure => simp [intOf]; omega
        · have hii : i = K + M := by omega
          have hbwi : Below w.heap.size w wr := chg_under2 hbr3 hcg (fun k e => by have := hub k e; omega)
          have hsi : wr.heap[w.heap.size]? = some (specB K M O S) := (hcg.block _ (by omega) (fun e => by have := hub _ e; omega)).trans hs3
          rw [hii, ← Hstp.out] at hown
          have hlen2 : all0.length + (K + M) = (sheetsTo K M O S z c t (p + 1)).length := by rw [Hstp.out, List.length_append, sheetTo_length]
          rw [hlen2] at hown
          clear hlen2
          have i5 : ¬ (i : Int) < (K : Int) + (M : Int) := by omega
          clear hcg hii hav hi hil
          go_wp2_with fail
          go_roundw
          case rel => exact ⟨p + 1, by omega, by go_num, hown, hsi, hbwi⟩
          case measure => simp [intOf]; omega
    · have hpc2 : p = c := by omega
      have i5 : ¬ (p : Int) < (c : Int) := by omega
      have hlp := Hlen.out p
      have hown9 : wr.ownsRow w.heap.size 9 1 u8 (c * (K + M)) (textV (sheetsTo K M O S z c t c)) := by
        rw [hlp, hpc2] at hown
        exact owns_low hown (Nat.le_succ _)
      clear hown hlp hlb hpc2 Hlen Hst
      go_wp2_with fail
      go_ret2
      exact ⟨_, rfl, hown9, hbr⟩

end Go.Proofs.Ytnjaofkieajnlaa

/- The program's Mail. -/
namespace Go.Proofs.Ytnjaofkieajnlaa
open Go.RowKit

/-- What is asked of a large object, by the size. -/
structure MailMay (K M O S z : Nat) (t : ByteArray) (x : Nat) : Prop where
  spec : SpecOk K M O S z
  three : 3 ≤ K * z
  size : t.size ≤ 20 * (K * z - 2)
  order : x ≤ 65535

/-- The sheets, in the order that is drawn. -/
def mailT (K M O S z : Nat) (t : ByteArray) (x : Nat) : List ByteArray :=
  mixFrom ByteArray.empty x (sheetsTo K M O S z (partsN t (K * z - 2)) t (partsN t (K * z - 2))) ((sheetsTo K M O S z (partsN t (K * z - 2)) t (partsN t (K * z - 2))).length - 1)

theorem mailT_length (K M O S z : Nat) (t : ByteArray) (x : Nat) : (mailT K M O S z t x).length = partsN t (K * z - 2) * (K + M) := by
  unfold mailT
  rw [mixFrom_length, sheetsTo_length]

set_option maxRecDepth 100000 in
set_option maxHeartbeats 8000000 in
theorem lmail_ok (K M O S z : Nat) (t : ByteArray) (x : Nat) (w : World) (h : MailMay K M O S z t x) :
    Calls Try.prog 64 #[specV K M O S, .int .i64 (z : Int), .string t, .int .i64 (x : Int)] w fun e w' => ∃ v, e = .returned (.tuple #[v, .int .i64 0]) ∧ w'.ownsRow w.heap.size 9 1 v (mailT K M O S z t x).length (textV (mailT K M O S z t x)) ∧ Below w.heap.size w w' := by
  obtain ⟨hsk, h3, hts, hx⟩ := h
  obtain ⟨hK, hM, hO, hS, hz⟩ := id hsk
  have hN2 : K * z ≤ 320 := Nat.le_trans (Nat.mul_le_mul hK.2 hz.2) (by decide)
  have hmul : (K : Int) * (z : Int) - 2 = ((K * z - 2 : Nat) : Int) := by
    have : (K : Int) * (z : Int) = ((K * z : Nat) : Int) := by simp
    rw [this]; omega
  have hma := fun W => maybe_below K M O S W
  have hmay : mayB K M O S = true := by simp [mayB]; omega
  rw [hmay] at hma
  have hro := fun W => room_any K z W hK.2 hz.2
  rw [hmul] at hro
  have hcu := fun W => lcut_any t (K * z - 2) W (by omega) (by omega)
  have hp20 : partsN t (K * z - 2) ≤ 20 := (partsN_le (by omega) (by omega)).2 hts
  have hp1 := partsN_pos t (K * z - 2) (by omega)
  have hsh := fun v W hL => lsheets_any K M O S z t (partsN t (K * z - 2)) v W hsk h3 rfl hp20 hL
  have hlen := sheetsTo_length K M O S z (partsN t (K * z - 2)) t (partsN t (K * z - 2))
  have hcl := cutL_length t (K * z - 2) (partsN t (K * z - 2))
  have hlb : partsN t (K * z - 2) * (K + M) ≤ 800 := Nat.le_trans (Nat.mul_le_mul hp20 (show K + M ≤ 40 by omega)) (by decide)
  have hl1 : 1 ≤ partsN t (K * z - 2) * (K + M) := Nat.mul_pos (by omega) (by omega)
  have hml := mailT_length K M O S z t x
  have hmx := fun v W hL => lshuf_any v (sheetsTo K M O S z (partsN t (K * z - 2)) t (partsN t (K * z - 2))) x W hL (by omega) (by omega)
  have hmt : mixFrom ByteArray.empty x (sheetsTo K M O S z (partsN t (K * z - 2)) t (partsN t (K * z - 2))) ((sheetsTo K M O S z (partsN t (K * z - 2)) t (partsN t (K * z - 2))).length - 1) = mailT K M O S z t x := rfl
  rw [hmt, hlen] at hmx
  rw [hml]
  have n1 : ¬ ((K * z - 2 : Nat) : Int) < 1 := by omega
  have n2 : ¬ 20 * ((K * z - 2 : Nat) : Int) < (t.size : Int) := by omega
  have n3 : ((K * z - 2 : Nat) : Int) ≤ 318 := by omega
  have n4 : 0 ≤ ((K * z - 2 : Nat) : Int) := by omega
  clear hmul hmt hml hmay hts h3 hN2 hp1
  generalize mailT K M O S z t x = R at *
  generalize hc : partsN t (K * z - 2) = c at *
  clear hc
  generalize hn : K * z - 2 = n at *
  clear hn
  generalize hD : sheetsTo K M O S z c t c = D at *
  generalize hC : cutL t n c = C at *
  clear hD hC
  obtain ⟨N, hN⟩ : ∃ N, N = c * (K + M) := ⟨_, rfl⟩
  rw [← hN] at hlen hsh hmx hlb hl1 ⊢
  clear hN
  have hsp : (w.alloc (specB K M O S)).heap[w.heap.size]? = some (specB K M O S) := heap_alloc_new w _
  have hbA : Below w.heap.size w (w.alloc (specB K M O S)) := (Below.refl _ _).alloc (Nat.le_refl _) _
  have z1 : ¬ (z : Int) < 1 := by omega
  have z2 : ¬ (16 : Int) < (z : Int) := by omega
  have o1 : ¬ (x : Int) < 0 := by omega
  have o2 : ¬ (65535 : Int) < (x : Int) := by omega
  have HL := hide hlen
  have HC := hide hcl
  clear hlen hcl
  go_enter Try.func64, Try.ntmps64
  go_wp2_with fail
  refine (hma _).mono ?_
  rintro e w1 ⟨rfl, hb1⟩
  have hs1 := block_on hsp hb1
  have hbw1 := hbA.trans (hb1.mono hbA.size)
  clear hsp hbA hb1 hma
  obtain ⟨c0, c1, c2, c3⟩ := spec_cells hs1
  go_wp2_with fail
  refine (hro _).mono ?_
  rintro e w1r ⟨rfl, hr⟩
  obtain rfl := hr.symm
  clear hro
  go_wp2_with fail
  refine (hcu _).mono ?_
  rintro e w2 ⟨v2, rfl, hown2, hb2⟩
  have hs2 := block_on hs1 hb2
  have hbw2 := hbw1.trans (hb2.mono hbw1.size)
  clear hs1 hb2 hcu c0 c1 c2 c3 hbw1
  have htx2 := owns_texts hown2 HC.out.symm
  clear hown2
  obtain ⟨c0, c1, c2, c3⟩ := spec_cells hs2
  go_wp2_with fail
  refine (hsh _ _ htx2).mono ?_
  rintro e w3 ⟨v3, rfl, hown3, hb3⟩
  have hbw3 := hbw2.trans (hb3.mono hbw2.size)
  have htx3 := owns_texts hown3 HL.out.symm
  clear hs2 hb3 hsh hown3 hbw2 htx2 c0 c1 c2 c3
  go_wp2_with fail
  refine (hmx _ _ htx3).mono ?_
  rintro e w4 ⟨v4, rfl, hown4, hb4⟩
  have hend := hbw3.trans (hb4.mono hbw3.size)
  have hown5 := owns_low hown4 hbw3.size
  clear hmx htx3 hown4 hb4 hbw3
  go_wp2_with fail
  go_ret2
  exact ⟨_, rfl, hown5, hend⟩

set_option maxRecDepth 100000 in
set_option maxHeartbeats 4000000 in
theorem lmail_bad (K M O S z x : Int) (t : ByteArray) (w : World) (hmay : mayB K M O S = false) :
    Calls Try.prog 64 #[specV K M O S, .int .i64 z, .string t, .int .i64 x] w fun e w' => e = .returned (.tuple #[.slice none 0 0, .int .i64 1]) ∧ Below w.heap.size w w' := by
  have hma := fun W => maybe_below K M O S W
  rw [hmay] at hma
  go_enter Try.func64, Try.ntmps64
  go_wp2_with fail
  refine (hma _).mono ?_
  rintro e w1 ⟨rfl, hb1⟩
  have hbw1 : Below w.heap.size w w1 := ((Below.refl _ _).alloc (Nat.le_refl _) _).trans (hb1.mono (by simp))
  go_wp2_with fail
  go_ret2
  exact ⟨rfl, hbw1⟩

set_option maxRecDepth 100000 in
set_option maxHeartbeats 4000000 in
theorem lmail_arg (K M O S z x : Int) (t : ByteArray) (w : World) (hmay : mayB K M O S = true) (h : z < 1 ∨ 16 < z ∨ x < 0 ∨ 65535 < x) :
    Calls Try.prog 64 #[specV K M O S, .int .i64 z, .string t, .int .i64 x] w fun e w' => e = .returned (.tuple #[.slice none 0 0, .int .i64 2]) ∧ Below w.heap.size w w' := by
  have hma := fun W => maybe_below K M O S W
  rw [hmay] at hma
  have hor : z < 1 ∨ (¬ z < 1 ∧ 16 < z) ∨ (¬ z < 1 ∧ ¬ 16 < z ∧ x < 0) ∨ (¬ z < 1 ∧ ¬ 16 < z ∧ ¬ x < 0 ∧ 65535 < x) := by omega
  clear h hmay
  go_enter Try.func64, Try.ntmps64
  go_wp2_with fail
  refine (hma _).mono ?_
  rintro e w1 ⟨rfl, hb1⟩
  have hbw1 : Below w.heap.size w w1 := ((Below.refl _ _).alloc (Nat.le_refl _) _).trans (hb1.mono (by simp))
  clear hma hb1
  rcases hor with h1 | ⟨h1, h2⟩ | ⟨h1, h2, h3⟩ | ⟨h1, h2, h3, h4⟩
  all_goals
    go_wp2_with fail
    go_ret2
    exact ⟨rfl, hbw1⟩

set_option maxRecDepth 100000 in
set_option maxHeartbeats 4000000 in
theorem lmail_shape (K M O S z : Nat) (t : ByteArray) (x : Nat) (w : World) (hmay : mayB K M O S = true) (hz : 1 ≤ z ∧ z ≤ 16) (hx : x ≤ 65535) (h : K * z < 3 ∨ (3 ≤ K * z ∧ 20 * (K * z - 2) < t.size)) :
    Calls Try.prog 64 #[specV K M O S, .int .i64 (z : Int), .string t, .int .i64 (x : Int)] w fun e w' => e = .returned (.tuple #[.slice none 0 0, .int .i64 3]) ∧ Below w.heap.size w w' := by
  have hKK := mayB_true hmay
  have hK : 1 ≤ K ∧ K ≤ 20 := by omega
  have hma := fun W => maybe_below K M O S W
  rw [hmay] at hma
  have hro := fun W => room_any K z W hK.2 hz.2
  have hN2 : K * z ≤ 320 := Nat.le_trans (Nat.mul_le_mul hK.2 hz.2) (by decide)
  have hN1 : 1 ≤ K * z := Nat.mul_pos (by omega) (by omega)
  have hmul : (K : Int) * (z : Int) = ((K * z : Nat) : Int) := by simp
  rw [hmul] at hro
  have hsp : (w.alloc (specB K M O S)).heap[w.heap.size]? = some (specB K M O S) := heap_alloc_new w _
  have hbA : Below w.heap.size w (w.alloc (specB K M O S)) := (Below.refl _ _).alloc (Nat.le_refl _) _
  have z1 : ¬ (z : Int) < 1 := by omega
  have z2 : ¬ (16 : Int) < (z : Int) := by omega
  have o1 : ¬ (x : Int) < 0 := by omega
  have o2 : ¬ (65535 : Int) < (x : Int) := by omega
  clear hmul hmay hKK
  rcases h with h | ⟨h3, h⟩
  · obtain ⟨r, hr⟩ : ∃ r : Int, r = ((K * z : Nat) : Int) - 2 := ⟨_, rfl⟩
    have n1 : r < 1 := by omega
    rw [← hr] at hro
    clear hr h hN2 hN1
    go_enter Try.func64, Try.ntmps64
    go_wp2_with fail
    refine (hma _).mono ?_
    rintro e w1 ⟨rfl, hb1⟩
    have hs1 := block_on hsp hb1
    have hbw1 := hbA.trans (hb1.mono hbA.size)
    clear hsp hbA hb1 hma
    obtain ⟨c0, c1, c2, c3⟩ := spec_cells hs1
    go_wp2_with fail
    refine (hro _).mono ?_
    rintro e w1r ⟨rfl, hr⟩
    obtain rfl := hr.symm
    go_wp2_with fail
    go_ret2
    exact ⟨rfl, hbw1⟩
  · obtain ⟨r, hr⟩ : ∃ r : Int, r = ((K * z : Nat) : Int) - 2 := ⟨_, rfl⟩
    have n1 : ¬ r < 1 := by omega
    have n2 : 20 * r < (t.size : Int) := by omega
    have n3 : r ≤ 318 := by omega
    have n4 : 0 ≤ r := by omega
    rw [← hr] at hro
    clear hr h hN2 hN1 h3
    go_enter Try.func64, Try.ntmps64
    go_wp2_with fail
    refine (hma _).mono ?_
    rintro e w1 ⟨rfl, hb1⟩
    have hs1 := block_on hsp hb1
    have hbw1 := hbA.trans (hb1.mono hbA.size)
    clear hsp hbA hb1 hma
    obtain ⟨c0, c1, c2, c3⟩ := spec_cells hs1
    go_wp2_with fail
    refine (hro _).mono ?_
    rintro e w1r ⟨rfl, hr⟩
    obtain rfl := hr.symm
    go_wp2_with fail
    go_ret2
    exact ⟨rfl, hbw1⟩

set_option maxRecDepth 100000 in
set_option maxHeartbeats 4000000 in
theorem mail_ok (K M O S z : Nat) (t : ByteArray) (x : Nat) (w : World) (h : MailMay K M O S z t x) :
    Calls Try.prog 43 #[specV K M O S, .int .i64 (z : Int), .string t, .int .i64 (x : Int)] w fun e w' => ∃ v, e = .returned (.tuple #[v, .int .i64 0]) ∧ w'.ownsRow w.heap.size 9 1 v (mailT K M O S z t x).length (textV (mailT K M O S z t x)) ∧ Below w.heap.size w w' := by
  have hse := fun W => lmail_ok K M O S z t x W h
  generalize mailT K M O S z t x = L at *
  have hbA : Below w.heap.size w (w.alloc (specB K M O S)) := (Below.refl _ _).alloc (Nat.le_refl _) _
  go_enter Try.func43, Try.ntmps43
  go_wp2_with fail
  refine (hse _).mono ?_
  rintro e w1 ⟨v, rfl, hown, hb1⟩
  have hown1 := owns_low hown hbA.size
  have hbw1 := hbA.trans (hb1.mono hbA.size)
  clear hown hse hbA hb1
  go_wp2_with fail
  go_ret2
  exact ⟨_, rfl, hown1, hbw1⟩

set_option maxRecDepth 100000 in
set_option maxHeartbeats 4000000 in
theorem mail_err (K M O S z x n : Int) (t : ByteArray) (w : World) (hse : ∀ W, Calls Try.prog 64 #[specV K M O S, .int .i64 z, .string t, .int .i64 x] W fun e w' => e = .returned (.tuple #[.slice none 0 0, .int .i64 n]) ∧ Below W.heap.size W w') :
    Calls Try.prog 43 #[specV K M O S, .int .i64 z, .string t, .int .i64 x] w fun e w' => e = .returned (.tuple #[.slice none 0 0, .int .i64 n]) ∧ Below w.heap.size w w' := by
  have hbA : Below w.heap.size w (w.alloc (.cells #[.int .i64 K, .int .i64 M, .int .i64 O, .int .i64 S] 23)) := (Below.refl _ _).alloc (Nat.le_refl _) _
  go_enter Try.func43, Try.ntmps43
  go_wp2_with fail
  refine (hse _).mono ?_
  rintro e w1 ⟨rfl, hb1⟩
  have hbw1 := hbA.trans (hb1.mono hbA.size)
  clear hse hbA hb1
  go_wp2_with fail
  go_ret2
  exact ⟨rfl, hbw1⟩

end Go.Proofs.Ytnjaofkieajnlaa

/- The examples, as plain mathematics: what the answers are. -/
namespace Go.Proofs.Ytnjaofkieajnlaa

abbrev gAB : ByteArray := ⟨#[97, 98]⟩
abbrev gCD : ByteArray := ⟨#[99, 100]⟩
abbrev g26 : ByteArray := ⟨#[2, 6]⟩
abbrev gZZ : ByteArray := ⟨#[122, 122]⟩
abbrev gA : ByteArray := ⟨#[65]⟩
abbrev gAE : ByteArray := ⟨#[97, 98, 99, 100, 101]⟩

theorem gold_row0 : rowOf 2 2 1 0 0 = [0, 1, 2] := by decide +kernel

theorem gold_row1 : rowOf 2 2 1 0 1 = [2, 3] := by decide +kernel

theorem gold_spare : sparesOf 2 2 1 0 [gAB, gCD] 2 = [g26, g26] := by decide +kernel

def gk1 : Kn := putK kn0 (ofs 2 2 1 0 0) gAB
def gk2 : Kn := putK gk1 (ofs 2 2 1 0 3) g26
def gk3 : Kn := putK gk2 (ofs 2 2 1 0 2) gZZ
def gd1 : Kn := putK kn0 (ofs 2 2 1 0 3) g26

theorem gold_box : putE (left kn0 (ofs 2 2 1 0 0) gAB) 2 = 0 ∧ openK gk1 2 = 1 ∧ (left gk1 (ofs 2 2 1 0 1) (zeroB 2)).1 ≠ 0 ∧ putE (left gk1 (ofs 2 2 1 0 3) g26) 2 = 0 ∧ left gk2 (ofs 2 2 1 0 1) (zeroB 2) = (0, gCD) ∧ left gk2 (ofs 2 2 1 0 2) (zeroB 2) = (0, g26) ∧ openK gk2 2 = 0 ∧ putE (left gk2 (ofs 2 2 1 0 2) gZZ) 2 = 4 ∧ putE (left gk3 (ofs 2 2 1 0 1) gCD) 2 = 0 := by decide +kernel

theorem gold_box2 : putE (left kn0 (ofs 2 2 1 0 3) g26) 2 = 0 ∧ left gd1 (ofs 2 2 1 0 2) (zeroB 2) = (0, g26) ∧ (left gd1 (ofs 2 2 1 0 0) (zeroB 2)).1 ≠ 0 ∧ (left gd1 (ofs 2 2 1 0 1) (zeroB 2)).1 ≠ 0 ∧ openK gd1 2 = 1 := by decide +kernel

abbrev gP (i : Nat) : ByteArray := (packTo 2 2 1 0 2 (objWord 2 2 1 0 2 gA) 4).getD i ByteArray.empty

theorem gold_pack : gP 0 = ⟨#[82, 2, 2, 1, 0, 0, 2, 0, 1, 0, 166]⟩ := by decide +kernel

def gs1 : CS := hearS CS.zero (gP 0)
def gs2 : CS := hearS gs1 (gP 3)

theorem gold_hear : hearE CS.zero (gP 0) = 0 ∧ hearE gs1 (gP 3) = 0 ∧ objE gs2 = (gA, 0) := by decide +kernel

abbrev gM (i : Nat) : ByteArray := (mailT 2 2 1 0 2 gAE 0).getD i ByteArray.empty

theorem gold_mail : (mailT 2 2 1 0 2 gAE 0).length = 12 ∧ 11 ≤ (gM 11).size ∧ 11 ≤ (gM 10).size ∧ (gM 11).extract 0 4 = ⟨#[83, 0, 3, 82]⟩ ∧ (gM 10).extract 0 4 = ⟨#[83, 0, 3, 82]⟩ ∧ byteAt (gM 11) 10 = 2 ∧ byteAt (gM 10) 10 = 3 := by decide +kernel

end Go.Proofs.Ytnjaofkieajnlaa

/- The examples, walked: what their small functions answer; Rows and Spare; what is refused. -/
namespace Go.Proofs.Ytnjaofkieajnlaa
open Go.RowKit

theorem Try.sizeSpecK : (Try.prog.info? 23).map (·.size) = some 4 := by kernel_rfl

set_option maxRecDepth 100000 in
set_option maxHeartbeats 4000000 in
theorem kfirst_any (w : World) :
    Calls Try.prog 45 #[] w fun e w' => e = .returned (specV 2 2 1 0) ∧ Below w.heap.size w w' := by
  go_enter Try.func45, Try.ntmps45
  go_wp2_with fail
  refine bodyPost_ret (v := specV 2 2 1 0) (results_cell_row Try.results45 _ _ w.heap.size 23 _ (0, 0) _ rfl (heap_alloc_new w _) Try.underlying23 rfl Try.sizeSpecK) rfl ⟨rfl, (Below.refl _ _).alloc (Nat.le_refl _) _⟩

/-- Numbers as they are read. -/
def NumsRead (w : World) (v : Value) (l : List Nat) : Prop := ∃ ao cap, v = .slice ao l.length cap ∧ ∀ k, k < l.length → ∃ q o, ao = some ⟨q, o, none⟩ ∧ q < w.heap.size ∧ w.cell? ⟨q, o + k, none⟩ = some (.int .i64 ((l.getD k 0 : Nat) : Int))

set_option maxRecDepth 100000 in
set_option maxHeartbeats 4000000 in
theorem ksame_yes (va vb : Value) (l : List Nat) (w : World) (hl : l.length ≤ 1000) (ha : NumsRead w va l) (hb : NumsRead w vb l) :
    Calls Try.prog 46 #[va, vb] w fun e w' => e = .returned (.bool true) ∧ Below w.heap.size w w' := by
  obtain ⟨aa, ca, rfl, hA⟩ := ha
  obtain ⟨ab, cb, rfl, hB⟩ := hb
  have HA := hide hA
  have HB := hide hB
  clear hA hB
  obtain ⟨n, hn⟩ : ∃ n, n = l.length := ⟨_, rfl⟩
  rw [← hn] at HA HB hl ⊢
  clear hn
  go_enter Try.func46, Try.ntmps46
  go_wp2_with fail
  go_loopw [13] (fun kv wr => ∃ k : Nat, k ≤ n ∧ kv = .int .i64 (k : Int) ∧ Below w.heap.size w wr) (fun kv _ => n - (intOf kv).toNat)
  case atStart => exact ⟨0, Nat.zero_le _, rfl, Below.refl _ _⟩
  case round =>
    obtain ⟨k, hk, rfl, hbr⟩ := hrel
    by_cases hlt : k < n
    · obtain ⟨q1, o1, rfl, hq1, t1⟩ := HA.out k hlt
      obtain ⟨q2, o2, rfl, hq2, t2⟩ := HB.out k hlt
      have r1 := (hbr.cell (p := ⟨q1, o1 + k, none⟩) hq1).trans t1
      have r2 := (hbr.cell (p := ⟨q2, o2 + k, none⟩) hq2).trans t2
      have i1 : (0 : Int) ≤ (k : Int) := by omega
      have i2 : (k : Int) < (n : Int) := by omega
      have hbN : ∀ x, Below w.heap.size w (wr.drewN x) := fun x => hbr.trans ⟨rfl, rfl, rfl, Nat.le_refl _, fun _ _ => rfl⟩
      clear t1 t2
      generalize l.getD k 0 = T at *
      go_upto_region 6 with fail
      go_quiet (fail)
      have hbe := hbN nq
      generalize wr.drewN nq = V at *
      clear r1 r2 hbN hbr
      go_wp2_with fail
      go_roundw
      case rel => exact ⟨k + 1, by omega, by go_num, hbe⟩
      case measure => simp [intOf]; omega
    · have i2 : ¬ (k : Int) < (n : Int) := by omega
      go_wp2_with fail
      go_ret
      exact ⟨rfl, hbr⟩

theorem NumsRead.on {w w' : World} {v : Value} {l : List Nat} (h : NumsRead w v l) (hb : Below w.heap.size w w') : NumsRead w' v l := by
  obtain ⟨ao, cap, e, hA⟩ := h
  exact ⟨ao, cap, e, fun k hk => by
    obtain ⟨q, o, e1, e2, e3⟩ := hA k hk
    exact ⟨q, o, e1, Nat.lt_of_lt_of_le e2 hb.size, (hb.cell (p := ⟨q, o + k, none⟩) e2).trans e3⟩⟩

theorem NumsRead.owned {w : World} {base : Nat} {v : Value} {l : List Nat} (h : w.ownsRow base 3 1 v l.length (numsV l)) : NumsRead w v l := by
  obtain ⟨ao, cap, e, hA⟩ := owns_view h
  refine ⟨ao, cap, e, fun k hk => ?_⟩
  obtain ⟨q, e1, e2⟩ := hA k hk
  exact ⟨q, 0, e1, (h.lt q (by rw [e, e1]; rfl)).2, by rw [Nat.zero_add]; exact e2⟩

theorem NumsRead.lit (w : World) (l : List Nat) : NumsRead (w.alloc (.cells (numsV l).toArray 3)) (.slice (some ⟨w.heap.size, 0, none⟩) l.length l.length) l := by
  refine ⟨_, _, rfl, fun k hk => ⟨w.heap.size, 0, rfl, by simp, ?_⟩⟩
  rw [Nat.zero_add, cell_of_row _ _ _ _ _ _ (heap_alloc_new w _), List.getElem?_toArray]
  unfold numsV
  rw [List.getElem?_map, List.getElem?_eq_getElem hk, List.getD_eq_getElem?_getD, List.getElem?_eq_getElem hk]; rfl

theorem texts_two (w : World) (a b : ByteArray) : TextsAt (w.alloc (.cells #[.string a, .string b] 9)) (.slice (some ⟨w.heap.size, 0, none⟩) 2 2) [a, b] := by
  refine ⟨_, 2, rfl, Nat.le_refl _, fun k hk => ⟨w.heap.size, 0, rfl, by simp, ?_⟩⟩
  have : k = 0 ∨ k = 1 := by simp at hk; omega
  rcases this with rfl | rfl <;> rw [cell_of_row _ _ _ _ _ _ (heap_alloc_new w _)] <;> rfl

set_option maxRecDepth 100000 in
set_option maxHeartbeats 8000000 in
theorem krowed_any (w : World) :
    Calls Try.prog 22 #[] w fun e w' => e = .returned (.bool true) ∧ Below w.heap.size w w' := by
  have hro : ∀ W, Calls Try.prog 31 #[specV 2 2 1 0] W fun e w' => ∃ g rv, e = .returned (.tuple #[.slice (some ⟨g, 0, none⟩) 2 2, .int .i64 0]) ∧ RowsAt w' (g + 1) g 2 rv (rowOf 2 2 1 0) ∧ W.heap.size ≤ g ∧ Below W.heap.size W w' := fun W => rows_ok 2 2 1 0 W (by omega) (by omega) (by omega) (by omega)
  have hspa : ∀ W : World, Calls Try.prog 35 #[specV 2 2 1 0, .slice (some ⟨W.heap.size, 0, none⟩) 2 2] (W.alloc (.cells #[.string gAB, .string gCD] 9)) fun e w' => ∃ v', e = .returned (.tuple #[v', .int .i64 0]) ∧ w'.ownsRow (W.heap.size + 1) 9 1 v' 2 (textV [g26, g26]) ∧ Below (W.heap.size + 1) (W.alloc (.cells #[.string gAB, .string gCD] 9)) w' := fun W => by
    have h := spare_ok 2 2 1 0 _ [gAB, gCD] _ (by omega) (by omega) (by omega) (by omega) ⟨rfl, fun k hk => by
      have : k = 0 ∨ k = 1 := by simp at hk; omega
      rcases this with rfl | rfl <;> decide⟩ (texts_two W gAB gCD)
    rw [show ([gAB, gCD].getD 0 ByteArray.empty).size = 2 from rfl, gold_spare, World.size_alloc] at h
    exact h
  go_enter Try.func22, Try.ntmps22
  go_wp2_with fail
  refine (kfirst_any _).mono ?_
  rintro e w1 ⟨rfl, hb1⟩
  go_wp2_with fail
  refine (hro _).mono ?_
  rintro e w2 ⟨g, rv, rfl, hr, hg, hb2⟩
  have hbw2 := hb1.trans (hb2.mono hb1.size)
  have n0 := hr.own 0 (by omega)
  have n1 := hr.own 1 (by omega)
  rw [gold_row0] at n0
  rw [gold_row1] at n1
  have m0 := NumsRead.owned n0
  have m1 := NumsRead.owned n1
  have c0 : w2.cell? ⟨g, 0, none⟩ = some (rv 0) := hr.row.cell (i := 0) (by omega)
  have c1 : w2.cell? ⟨g, 1, none⟩ = some (rv 1) := hr.row.cell (i := 1) (by omega)
  have hgl := hr.row.lt
  clear hb1 hb2 n0 n1 hr hro
  generalize rv 0 = r0 at *
  generalize rv 1 = r1 at *
  go_wp2_with fail
  refine (kfirst_any _).mono ?_
  rintro e w3 ⟨rfl, hb3⟩
  have hbw3 := hbw2.trans (hb3.mono hbw2.size)
  have d0 := (hb3.cell (p := ⟨g, 0, none⟩) hgl).trans c0
  have d1 := (hb3.cell (p := ⟨g, 1, none⟩) hgl).trans c1
  have m0' := m0.on hb3
  have m1' := m1.on hb3
  have hgl3 := Nat.lt_of_lt_of_le hgl hb3.size
  clear c0 c1 m0 m1 hbw2 hb3 hgl
  go_wp2_with fail
  refine (hspa _).mono ?_
  rintro e w4 ⟨v4, rfl, hown4, hb4⟩
  have hbA := (Below.refl w3.heap.size w3).alloc (Nat.le_refl _) (.cells #[.string gAB, .string gCD] 9)
  have hb34 : Below w3.heap.size w3 w4 := hbA.trans (hb4.mono (Nat.le_succ _))
  have hbw4 := hbw3.trans (hb34.mono hbw3.size)
  have c0 := (hb34.cell (p := ⟨g, 0, none⟩) hgl3).trans d0
  have c1 := (hb34.cell (p := ⟨g, 1, none⟩) hgl3).trans d1
  have m0 := m0'.on hb34
  have m1 := m1'.on hb34
  have hgl4 := Nat.lt_of_lt_of_le hgl3 hb34.size
  obtain ⟨g4, cap4, rfl, _, hg4⟩ := hown4.form (by omega)
  have t0 := owns_at hown4 (i := 0) (by omega) rfl
  have t1 := owns_at hown4 (i := 1) (by omega) rfl
  have t0' : w4.cell? ⟨g4, 0, none⟩ = some (.string g26) := t0
  have t1' : w4.cell? ⟨g4, 1, none⟩ = some (.string g26) := t1
  clear d0 d1 m0' m1' hspa hbA hb34 hb4 hbw3 hown4 t0 t1 hgl3
  go_wp2_with fail
  have hbA0 := (Below.refl w4.heap.size w4).alloc (Nat.le_refl _) (.cells (numsV [0, 1, 2]).toArray 3)
  refine (ksame_yes r0 _ [0, 1, 2] (w4.alloc (.cells (numsV [0, 1, 2]).toArray 3)) (by decide) (m0.on hbA0) (NumsRead.lit w4 [0, 1, 2])).mono ?_
  rintro e w5 ⟨rfl, hb5⟩
  have hb45 : Below w4.heap.size w4 w5 := hbA0.trans (hb5.mono (by simp))
  have hbw5 := hbw4.trans (hb45.mono hbw4.size)
  have d1 := (hb45.cell (p := ⟨g, 1, none⟩) hgl4).trans c1
  have m1' := m1.on hb45
  have e0 := (hb45.cell (p := ⟨g4, 0, none⟩) hg4).trans t0'
  have e1 := (hb45.cell (p := ⟨g4, 1, none⟩) hg4).trans t1'
  have hg5 := Nat.lt_of_lt_of_le hg4 hb45.size
  clear c0 c1 m0 m1 hbw4 hb45 hb5 hbA0 t0' t1'
  go_wp2_with fail
  have hbA1 := (Below.refl w5.heap.size w5).alloc (Nat.le_refl _) (.cells (numsV [2, 3]).toArray 3)
  refine (ksame_yes r1 _ [2, 3] (w5.alloc (.cells (numsV [2, 3]).toArray 3)) (by decide) (m1'.on hbA1) (NumsRead.lit w5 [2, 3])).mono ?_
  rintro e w6 ⟨rfl, hb6⟩
  have hb56 : Below w5.heap.size w5 w6 := hbA1.trans (hb6.mono (by simp))
  have hbw6 := hbw5.trans (hb56.mono hbw5.size)
  have f0 := (hb56.cell (p := ⟨g4, 0, none⟩) hg5).trans e0
  have f1 := (hb56.cell (p := ⟨g4, 1, none⟩) hg5).trans e1
  clear d1 m1' hbw5 hb56 hb6 hbA1 e0 e1
  go_wp2_with fail
  go_ret
  exact ⟨by first | rfl | simp, hbw6⟩

end Go.Proofs.Ytnjaofkieajnlaa
