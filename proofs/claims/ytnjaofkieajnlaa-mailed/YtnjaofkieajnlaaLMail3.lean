/- The program's large objects: the sheets of all parts. -/
import Derived.Test.YtnjaofkieajnlaaLMail2
namespace Go.Proofs.Ytnjaofkieajnlaa
open Go.RowKit

theorem run_make_mul (a b : Nat) (hn : a * b ≤ 1000000) (w : World) : (Instr.makeSlice 28 (.int .i64 0) (.int .i64 ((a : Int) * (b : Int)))).run Try.prog w = .ok (.slice (some ⟨w.heap.size, 0, none⟩) 0 (a * b)) (w.alloc (.cells (madeCells #[.string ByteArray.empty] (a * b)) 9)) := by
  have h := run_make_texts (a * b) hn w
  rw [show ((a * b : Nat) : Int) = (a : Int) * (b : Int) by simp] at h
  exact h

set_option maxRecDepth 100000 in
set_option maxHeartbeats 8000000 in
theorem lsheets_any (K M O S z : Nat) (t : ByteArray) (c : Nat) (v : Value) (w : World) (h : SpecOk K M O S z) (h3 : 3 ≤ K * z) (hc : c = partsN t (K * z - 2)) (hc2 : c ≤ 20) (hL : TextsAt w v (cutL t (K * z - 2) c)) :
    Calls Try.prog 82 #[specV K M O S, .int .i64 (z : Int), v] w fun e w' => ∃ v', e = .returned (.tuple #[v', .int .i64 0]) ∧ w'.ownsRow w.heap.size 9 1 v' (c * (K + M)) (textV (sheetsTo K M O S z c t c)) ∧ Below w.heap.size w w' := by
  obtain ⟨hK, hM, hO, hS, hz⟩ := h
  obtain ⟨n, hn⟩ : ∃ n, n = K * z - 2 := ⟨_, rfl⟩
  have hn1 : 1 ≤ n := by omega
  have hc1 : 1 ≤ c := by rw [hc]; exact partsN_pos t _ (by omega)
  have hse := fun p (hp : p < c) W => osend_ok K M O S z (partT t n p) W hK hM hO hS hz (by have := (partT_in t n p hn1 (by rw [hn, ← hc]; exact hp)).2; omega)
  have hsz : ∀ p, p < c → (partT t n p).size + 2 ≤ K * z := fun p hp => by have := (partT_in t n p hn1 (by rw [hn, ← hc]; exact hp)).2; omega
  have hst : ∀ p, sheetsTo K M O S z c t (p + 1) = sheetsTo K M O S z c t p ++ sheetTo p c (packTo K M O S z (objWord K M O S z (partT t n p)) (K + M)) (K + M) := fun p => by
    show sheetsTo K M O S z c t p ++ sheetTo p c (partL K M O S z t p) (K + M) = _
    unfold partL
    rw [← hn]
  have hlen := fun p => sheetsTo_length K M O S z c t p
  obtain ⟨ao, cap, rfl, hcap, hT⟩ := hL
  rw [cutL_length] at hcap hT ⊢
  rw [← hn] at hT
  have hT2 : ∀ k, k < c → ∃ q o, ao = some ⟨q, o, none⟩ ∧ q < w.heap.size ∧ w.cell? ⟨q, o + k, none⟩ = some (.string (partT t n k)) := fun k hk => by
    obtain ⟨q, o, e1, e2, e3⟩ := hT k hk
    exact ⟨q, o, e1, e2, by rw [e3, cutL_getD _ _ _ _ hk]⟩
  have hcb : c * (K + M) ≤ 800 := Nat.le_trans (Nat.mul_le_mul hc2 (show K + M ≤ 40 by omega)) (by decide)
  have hmk := run_make_mul c (K + M) (by omega)
  rw [show ((K + M : Nat) : Int) = (K : Int) + (M : Int) by omega] at hmk
  have m1 : 0 ≤ (c : Int) * ((K : Int) + (M : Int)) := Int.mul_nonneg (by omega) (by omega)
  have m2 : (c : Int) * ((K : Int) + (M : Int)) ≤ 800 := by
    have : (c : Int) * ((K : Int) + (M : Int)) = ((c * (K + M) : Nat) : Int) := by simp
    omega
  have HT := hide hT2
  have Hst := hide hst
  have Hlen := hide hlen
  clear hT hT2 hst hlen hn hc
  obtain ⟨j0, gi, gz0, gz1, gz2⟩ := info_parts Try.infoText
  have hsp : (w.alloc (specB K M O S)).heap[w.heap.size]? = some (specB K M O S) := heap_alloc_new w _
  have hbA : Below w.heap.size w (w.alloc (specB K M O S)) := (Below.refl _ _).alloc (Nat.le_refl _) _
  have hcell : ∀ k, k < c → ∃ q o, ao = some ⟨q, o, none⟩ ∧ q < w.heap.size := fun k hk => by
    obtain ⟨q, o, e1, e2, _⟩ := HT.out k hk
    exact ⟨q, o, e1, e2⟩
  obtain ⟨q, o, rfl, hq⟩ := hcell 0 (by omega)
  clear hcell
  obtain ⟨c0, c1, _, _⟩ := spec_cells hsp
  go_enter Try.func82, Try.ntmps82
  generalize hWA : w.alloc (specB K M O S) = WA at *
  have hsA : w.heap.size < WA.heap.size := (Array.getElem?_eq_some_iff.1 hsp).1
  go_upto_region 2 with fail
  have hst0 : (WA.alloc (.cells (madeCells #[.string ByteArray.empty] (c * (K + M))) 9)).ownsRow (w.heap.size + 1) 9 1 (.slice (some ⟨WA.heap.size, 0, none⟩) 0 (c * (K + M))) 0 (textV (sheetsTo K M O S z c t 0)) := World.ownsRow_made (base := w.heap.size + 1) (e := 9) (size := 1) WA (madeCells #[.string ByteArray.empty] (c * (K + M))) (c * (K + M)) (by omega) (by unfold maxLen; omega) (by simp [size_madeCells])
  have hbS : Below w.heap.size w (WA.alloc (.cells (madeCells #[.string ByteArray.empty] (c * (K + M))) 9)) := hbA.alloc hbA.size _
  have hsS : (WA.alloc (.cells (madeCells #[.string ByteArray.empty] (c * (K + M))) 9)).heap[w.heap.size]? = some (specB K M O S) := by rw [heap_alloc_old _ _ hsA]; exact hsp
  generalize WA.alloc (.cells (madeCells #[.string ByteArray.empty] (c * (K + M))) 9) = WB at *
  clear hmk m1 m2 hsp hbA c0 c1 hWA hsA
  go_wp2_with fail
  go_loopw [8, 27] (fun av pv wr => ∃ p : Nat, p ≤ c ∧ pv = .int .i64 (p : Int) ∧ wr.ownsRow (w.heap.size + 1) 9 1 av (sheetsTo K M O S z c t p).length (textV (sheetsTo K M O S z c t p)) ∧ wr.heap[w.heap.size]? = some (specB K M O S) ∧ Below w.heap.size w wr) (fun _ pv _ => c - (intOf pv).toNat)
  case atStart => exact ⟨0, Nat.zero_le _, rfl, hst0, hsS, hbS⟩
  case round =>
    clear hst0 hsS hbS
    obtain ⟨p, hpc, rfl, hown, hsr, hbr⟩ := hrel
    have hszr : w.heap.size < wr.heap.size := (Array.getElem?_eq_some_iff.1 hsr).1
    have hlp := Hlen.out p
    have hlb : (sheetsTo K M O S z c t p).length ≤ 800 := by rw [hlp]; exact Nat.le_trans (Nat.mul_le_mul (show p ≤ 20 by omega) (show K + M ≤ 40 by omega)) (by decide)
    clear hlp
    by_cases hlt : p < c
    · have hs := hse p hlt
      obtain ⟨q', o', e1, _, ht0⟩ := HT.out p hlt
      simp only [Option.some.injEq, Addr.mk.injEq, and_true] at e1
      obtain ⟨rfl, rfl⟩ := e1
      have ht1 := (hbr.cell (p := ⟨q, o + p, none⟩) hq).trans ht0
      have hstp := Hst.out p
      have hLl := packTo_length K M O S z (objWord K M O S z (partT t n p)) (K + M)
      have hLs := fun i (hi : i < K + M) => packTo_sizes (K := K) (M := M) (O := O) (S := S) (z := z) (o := partT t n p) (hsz p hlt) hi
      generalize packTo K M O S z (objWord K M O S z (partT t n p)) (K + M) = L at *
      generalize partT t n p = pt at *
      have Hstp := hide hstp
      clear hstp ht0
      obtain ⟨c0, c1, c2, c3⟩ := spec_cells hsr
      obtain ⟨all0, hall0⟩ : ∃ l, l = sheetsTo K M O S z c t p := ⟨_, rfl⟩
      rw [← hall0] at hown hlb Hstp
      clear hall0
      have i1 : (0 : Int) ≤ (p : Int) := by omega
      have i2 : (p : Int) < (c : Int) := by omega
      go_wp2_with fail
      refine (hs _).mono ?_
      rintro e w3 ⟨v3, rfl, hown3, hb3⟩
      obtain ⟨g, gcap, rfl, hg, hgl⟩ := hown3.form (by omega)
      have hTc : ∀ k, k < K + M → w3.cell? ⟨g, k, none⟩ = some (.string (L.getD k ByteArray.empty)) := fun k hk => by
        have := hown3.cells (g := g) rfl k (.string (L.getD k ByteArray.empty)) (by unfold textV; rw [List.getElem?_map, List.getElem?_eq_getElem (by omega), List.getD_eq_getElem?_getD, List.getElem?_eq_getElem (by omega)]; rfl)
        rwa [Addr.add_mid, Nat.zero_add] at this
      have hown4 : w3.ownsRow (w.heap.size + 1) 9 1 u8 all0.length (textV all0) := owns_below hown hb3
      have hs3 : w3.heap[w.heap.size]? = some (specB K M O S) := block_on hsr hb3
      have hbr3 : Below w.heap.size w w3 := hbr.trans (hb3.mono hbr.size)
      have hub : ∀ k, u8.ownBlock = some k → w.heap.size + 1 ≤ k ∧ k < g := fun k hk => by
        have h1 := hown.lt k hk
        have h2 : wr.heap.size ≤ g := hg
        omega
      have hsz3 : wr.heap.size ≤ w3.heap.size := hb3.size
      obtain ⟨ob, hob⟩ : ∃ ob, ob = u8.ownBlock := ⟨_, rfl⟩
      rw [← hob] at hub
      have HTc := hide hTc
      have HLs := hide hLs
      clear hTc hLs c0 c1 c2 c3 hown3 hb3 hown hsr hbr hs ht1
      go_wp2_with fail
      go_loopw [8, 44] (fun av iv wi => ∃ i : Nat, i ≤ K + M ∧ iv = .int .i64 (i : Int) ∧ wi.ownsRow (w.heap.size + 1) 9 1 av (all0.length + i) (textV (all0 ++ sheetTo p c L i)) ∧ (∀ k, av.ownBlock = some k → ob = some k ∨ w3.heap.size ≤ k) ∧ Chg (fun k => ob = some k) w3 wi) (fun _ iv _ => K + M - (intOf iv).toNat)
      case atStart => exact ⟨0, Nat.zero_le _, rfl, by show w3.ownsRow _ _ _ _ _ (textV (all0 ++ [])); rw [List.append_nil]; exact hown4, fun k hk => Or.inl (by rw [hob]; exact hk), Chg.refl _ _⟩
      case round =>
        clear hown4 hob
        obtain ⟨i, hi, rfl, hown, hav, hcg⟩ := hrel
        have hwis := hcg.size
        by_cases hil : i < K + M
        · have ht1 := (hcg.cell (a := ⟨g, i, none⟩) hgl (fun e => by have := hub g e; omega)).trans (HTc.out i hil)
          have hls := HLs.out i hil
          have hsn : all0 ++ sheetTo p c L (i + 1) = (all0 ++ sheetTo p c L i) ++ [sheetB p c (L.getD i ByteArray.empty)] := by rw [List.append_assoc]; rfl
          have Hsn := hide hsn
          clear hsn
          generalize L.getD i ByteArray.empty = pk at *
          have hpk : pk.size ≤ 25 := by omega
          have htx := fun W => ltext_any p c pk W (by omega) (by omega) (by omega)
          clear hls
          generalize sheetB p c pk = T at *
          have i1 : (0 : Int) ≤ (i : Int) := by omega
          have i2 : (i : Int) < (K : Int) + (M : Int) := by omega
          go_wp2_with fail
          refine (htx _).mono ?_
          rintro e w6 ⟨rfl, hb6⟩
          have hown6 := owns_below hown hb6
          have hw6 := hb6.size
          have hcg6 : Chg (fun k => ob = some k) w3 w6 := hcg.trans (Chg.of_below hb6 _) (fun _ _ s => s)
          clear htx ht1 hown hcg
          go_wp2_with (at_builtin; refine wpList_append_lies _ rfl (.tmp 53) (.tmp 55) 28 rfl (w.heap.size + 1) 9 j0 (.string ByteArray.empty) 1 16 Try.underlying28 gi gz0 gz1 gz2 rfl (by decide) _ _ _ rfl (hown6.alloc _) ⟨w6.heap.size, 0, none⟩ 1 1 [.string T] rfl rfl (one_news _ _ _) (one_oneCell rfl) (by decide) (by unfold maxLen; omega) (by omega) (by simp; omega) (w6.heap.size + 1) (by simp) ?_)
          intro g5 cap5 w5 hown5 hgr5 hat5 hlt5
          have hgr := grownBy_of_alloc hgr5
          have hcg5 : Chg (fun k => ob = some k) w3 w5 := hcg6.grown hgr (fun k e => by
            rcases hav k e with h | h
            · exact Or.inr h
            · exact Or.inl h)
          have hav5 : ∀ k, (Value.slice (some ⟨g5, 0, none⟩) (all0.length + i + 1) cap5).ownBlock = some k → ob = some k ∨ w3.heap.size ≤ k := fun k hk => by
            have hk' : g5 = k := by simpa [Value.ownBlock] using hk
            rcases hat5 with h | h
            · exact hav k (by rw [h, hk'])
            · right; omega
          clear hown6 hcg6 hgr5 hgr hat5 hav
          go_wp2_with fail
          go_roundw
          case rel => exact ⟨i + 1, by omega, by go_num, by rw [Hsn.out, textV_append]; exact hown5, hav5, hcg5⟩
          case measure => simp [intOf]; omega
        · have hii : i = K + M := by omega
          have hbwi : Below w.heap.size w wr := chg_under2 hbr3 hcg (fun k e => by have := hub k e; omega)
          have hsi : wr.heap[w.heap.size]? = some (specB K M O S) := (hcg.block _ (by omega) (fun e => by have := hub _ e; omega)).trans hs3
          rw [hii, ← Hstp.out] at hown
          have hlen2 : all0.length + (K + M) = (sheetsTo K M O S z c t (p + 1)).length := by rw [Hstp.out, List.length_append, sheetTo_length]
          rw [hlen2] at hown
          clear hlen2
          have i5 : ¬ (i : Int) < (K : Int) + (M : Int) := by omega
          clear hcg hii hav hi hil
          go_wp2_with fail
          go_roundw
          case rel => exact ⟨p + 1, by omega, by go_num, hown, hsi, hbwi⟩
          case measure => simp [intOf]; omega
    · have hpc2 : p = c := by omega
      have i5 : ¬ (p : Int) < (c : Int) := by omega
      have hlp := Hlen.out p
      have hown9 : wr.ownsRow w.heap.size 9 1 u8 (c * (K + M)) (textV (sheetsTo K M O S z c t c)) := by
        rw [hlp, hpc2] at hown
        exact owns_low hown (Nat.le_succ _)
      clear hown hlp hlb hpc2 Hlen Hst
      go_wp2_with fail
      go_ret2
      exact ⟨_, rfl, hown9, hbr⟩

end Go.Proofs.Ytnjaofkieajnlaa
