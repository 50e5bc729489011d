/- The program's large objects: the order that is drawn. -/
import Derived.Test.YtnjaofkieajnlaaLMail1
namespace Go.Proofs.Ytnjaofkieajnlaa
open Go.RowKit

set_option maxRecDepth 100000 in
set_option maxHeartbeats 400000 in
theorem below_big (b : Nat) (x n : Int) (w : World) (hx : 0 ≤ x ∧ x ≤ 65536) (hn : 1 ≤ n ∧ n ≤ 1000) (hc : w.cell? ⟨b, 0, none⟩ = some (.int .i64 x)) (hf : w.frozen? ⟨b, 0, none⟩ = false) :
    Calls Try.prog 93 #[.pointer (some ⟨b, 0, none⟩), .int .i64 n] w fun e w' => e = .returned (.int .i64 ((75 * x + 74) % 65537 % n)) ∧ w' = w.setCell ⟨b, 0, none⟩ (.int .i64 ((75 * x + 74) % 65537)) := by
  go_enter Try.func93, Try.ntmps93
  go_wp2
  go_ret
  exact ⟨rfl, rfl⟩

theorem below_bignat (b x n : Nat) (w : World) (hx : x < 65537) (hn : 1 ≤ n ∧ n ≤ 1000) (hb : w.heap[b]? = some (.cells #[.int .i64 (x : Int)] 121 (0, 0))) :
    Calls Try.prog 93 #[.pointer (some ⟨b, 0, none⟩), .int .i64 (n : Int)] w fun e w' => e = .returned (.int .i64 ((nxt x % n : Nat) : Int)) ∧ w' = w.setCell ⟨b, 0, none⟩ (.int .i64 (nxt x : Int)) := by
  have h := below_big b (x : Int) (n : Int) w (by omega) (by omega) (by rw [cell_of_row _ _ _ _ _ _ hb]; rfl) (frozen_of_row _ _ _ _ _ hb)
  have e1 : (75 * (x : Int) + 74) % 65537 = ((nxt x : Nat) : Int) := by unfold nxt; omega
  have e2 : ((nxt x : Nat) : Int) % (n : Int) = ((nxt x % n : Nat) : Int) := by omega
  rw [e1, e2] at h
  exact h

theorem textV_set (l : List ByteArray) (i : Nat) (t : ByteArray) : (textV l).set i (.string t) = textV (l.set i t) := by
  unfold textV; rw [List.map_set]

theorem owns_swap {w : World} {base g n cap : Nat} {A : List ByteArray} (h : w.ownsRow base 9 1 (.slice (some ⟨g, 0, none⟩) n cap) n (textV A)) (i j : Nat) : ((w.setCell ⟨g, i, none⟩ (.string (A.getD j ByteArray.empty))).setCell ⟨g, j, none⟩ (.string (A.getD i ByteArray.empty))).ownsRow base 9 1 (.slice (some ⟨g, 0, none⟩) n cap) n (textV (swapL A ByteArray.empty i j)) := by
  have h1 := (h.stored i (.string (A.getD j ByteArray.empty))).1
  rw [textV_set] at h1
  have h2 := (h1.stored j (.string (A.getD i ByteArray.empty))).1
  rw [textV_set] at h2
  exact h2

theorem owns_at {w : World} {base g n cap : Nat} {A : List ByteArray} (h : w.ownsRow base 9 1 (.slice (some ⟨g, 0, none⟩) n cap) n (textV A)) {i : Nat} (hi : i < n) (hA : A.length = n) : w.cell? ⟨g, i, none⟩ = some (.string (A.getD i ByteArray.empty)) := by
  rw [h.cellAt i (by omega), textV_get A i (by omega)]

set_option maxRecDepth 100000 in
set_option maxHeartbeats 8000000 in
theorem lshuf_any (v : Value) (L : List ByteArray) (x0 : Nat) (w : World) (hL : TextsAt w v L) (hl : 1 ≤ L.length ∧ L.length ≤ 1000) (hx0 : x0 ≤ 65536) :
    Calls Try.prog 83 #[v, .int .i64 (x0 : Int)] w fun e w' => ∃ v', e = .returned v' ∧ w'.ownsRow w.heap.size 9 1 v' L.length (textV (mixFrom ByteArray.empty x0 L (L.length - 1))) ∧ Below w.heap.size w w' := by
  obtain ⟨j0, gi, gz0, gz1, gz2⟩ := info_parts Try.infoText
  obtain ⟨ao, cap, rfl, hcap, hT⟩ := hL
  obtain ⟨n, hn⟩ : ∃ n, n = L.length := ⟨_, rfl⟩
  rw [← hn] at hl hcap hT ⊢
  obtain ⟨q, o, rfl, hq, _⟩ := hT 0 (by omega)
  have hnews : ∀ j u, (textV L)[j]? = some u → w.cell? ((⟨q, o, none⟩ : Addr).add j) = some u := fun j u hj => by
    have hjn : j < L.length := by have := (List.getElem?_eq_some_iff.1 hj).1; rwa [textV_length] at this
    obtain ⟨q', o', e1, e2, e3⟩ := hT j (by omega)
    simp only [Option.some.injEq, Addr.mk.injEq, and_true] at e1
    obtain ⟨rfl, rfl⟩ := e1
    rw [textV_get L j hjn] at hj
    rw [Addr.add_mid, e3, ← hj]
  have hmk := run_make_texts n (by omega)
  have hLn := hide hn
  have HNw := hide hnews
  have hlen := textV_length L
  rw [← hn] at hlen
  clear hn hT hnews
  go_enter Try.func83, Try.ntmps83
  go_upto_region 2 with fail
  have hst : (w.alloc (.cells (madeCells #[.string ByteArray.empty] n) 9)).ownsRow w.heap.size 9 1 (.slice (some ⟨w.heap.size, 0, none⟩) 0 n) 0 [] := World.ownsRow_made (base := w.heap.size) (e := 9) (size := 1) w (madeCells #[.string ByteArray.empty] n) n (Nat.le_refl _) (by unfold maxLen; omega) (by simp [size_madeCells])
  have hbS : Below w.heap.size w (w.alloc (.cells (madeCells #[.string ByteArray.empty] n) 9)) := (Below.refl _ _).alloc (Nat.le_refl _) _
  have HNw2 : Hid (∀ j u, (textV L)[j]? = some u → (w.alloc (.cells (madeCells #[.string ByteArray.empty] n) 9)).cell? ((⟨q, o, none⟩ : Addr).add j) = some u) := hide (fun j u hj => by have h1 := HNw.out j u hj; rw [Addr.add_mid] at h1 ⊢; exact (hbS.cell (p := ⟨q, o + j, none⟩) hq).trans h1)
  have hqW : q < (w.alloc (.cells (madeCells #[.string ByteArray.empty] n) 9)).heap.size := by simp; omega
  have hWs := hbS.size
  generalize w.alloc (.cells (madeCells #[.string ByteArray.empty] n) 9) = W at *
  clear hmk HNw
  go_wp2_with (at_builtin; refine wpList_append_lies _ rfl (.tmp 13) (.tmp 14) 28 rfl w.heap.size 9 j0 (.string ByteArray.empty) 1 16 Try.underlying28 gi gz0 gz1 gz2 rfl (by decide) _ _ _ rfl hst ⟨q, o, none⟩ n cap (textV L) rfl (by rw [hlen]; omega) HNw2.out (textV_one L) (by omega) (by unfold maxLen; omega) (by omega) (by omega) W.heap.size rfl ?_)
  intro g4 k4 w4 hown4 hgr4 hat4 hlt4
  have hb4 : Below w.heap.size W w4 := below_ownS hst hgr4 hWs
  have hbw4 : Below w.heap.size w w4 := hbS.trans hb4
  have hown4' : w4.ownsRow w.heap.size 9 1 (.slice (some ⟨g4, 0, none⟩) n k4) n (textV L) := hown4
  have hg4 := hown4'.lt g4 rfl
  clear hgr4 hat4 hown4 hst hbS hb4 HNw2 hqW hWs
  go_wp2_with fail
  refine (from_any _ _).mono ?_
  rintro e w5 ⟨rfl, h5⟩
  have hdr : w5.heap[w4.heap.size]? = some (.cells #[.int .i64 (x0 : Int)] 121 (0, 0)) := by rw [h5]; exact heap_alloc_new w4 _
  have hown5 : w5.ownsRow w.heap.size 9 1 (.slice (some ⟨g4, 0, none⟩) n k4) n (textV L) := by rw [h5]; exact hown4'.alloc _
  have hb5 : Below w.heap.size w w5 := by rw [h5]; exact hbw4.alloc hbw4.size _
  have hbs4 := hbw4.size
  clear h5 hbw4 hown4'
  go_wp2_with fail
  go_loopw [7] (fun iv wr => ∃ (i x : Nat) (A : List ByteArray), i < n ∧ x ≤ 65536 ∧ A.length = n ∧ iv = .int .i64 (i : Int) ∧ mixFrom ByteArray.empty x A i = mixFrom ByteArray.empty x0 L (n - 1) ∧ wr.ownsRow w.heap.size 9 1 (.slice (some ⟨g4, 0, none⟩) n k4) n (textV A) ∧ wr.heap[w4.heap.size]? = some (.cells #[.int .i64 (x : Int)] 121 (0, 0)) ∧ Below w.heap.size w wr) (fun iv _ => (intOf iv).toNat)
  case atStart => exact ⟨n - 1, x0, L, by omega, hx0, hLn.out.symm, by congr 1; omega, rfl, hown5, hdr, hb5⟩
  case round =>
    clear hown5 hdr hb5
    obtain ⟨i, x, A, hi, hx, hA, rfl, hmix, hown, hdr, hbr⟩ := hrel
    have Hmix := hide hmix
    have HA := hide hA
    clear hmix
    by_cases hi1 : 1 ≤ i
    · have hd : nxt x % (i + 1) < i + 1 := Nat.mod_lt _ (by omega)
      have hnx : nxt x ≤ 65536 := by unfold nxt; omega
      have hm2 : mixFrom ByteArray.empty x A i = mixFrom ByteArray.empty (nxt x) (swapL A ByteArray.empty i (nxt x % (i + 1))) (i - 1) := by
        obtain ⟨m, rfl⟩ : ∃ m, i = m + 1 := ⟨i - 1, by omega⟩
        rfl
      have Hm2 := hide hm2
      clear hm2
      have hbe := fun W (h : W.heap[w4.heap.size]? = some (.cells #[.int .i64 (x : Int)] 121 (0, 0))) => below_bignat w4.heap.size x (i + 1) W (by omega) (by omega) h
      rw [show ((i + 1 : Nat) : Int) = (i : Int) + 1 by omega] at hbe
      have i0 : (0 : Int) < (i : Int) := by omega
      generalize nxt x = y at *
      generalize hdd : y % (i + 1) = d at *
      have Hdd := hide hdd
      clear hdd
      go_wp2_with fail
      refine (hbe _ hdr).mono ?_
      rintro e w6 ⟨rfl, h6⟩
      have hdr6 : w6.heap[w4.heap.size]? = some (.cells #[.int .i64 (y : Int)] 121 (0, 0)) := by
        rw [h6, heap_setCell_same wr w4.heap.size 0 _ _ _ hdr]; rfl
      have hown6 : w6.ownsRow w.heap.size 9 1 (.slice (some ⟨g4, 0, none⟩) n k4) n (textV A) := by
        rw [h6]; exact owns_of_block hown (fun k hk => heap_setCell_other _ _ _ _ (by simp [Value.ownBlock] at hk; show k ≠ w4.heap.size; omega))
      have hb6 : Below w.heap.size w w6 := by rw [h6]; exact hbr.setCell (p := ⟨w4.heap.size, 0, none⟩) hbs4 _
      clear h6 hown hdr hbr hbe
      have c0 := owns_at hown6 (i := i) (by omega) hA
      have c1 := owns_at hown6 (i := d) (by omega) hA
      have f0 := hown6.frozenAt i
      have hend := owns_swap hown6 i d
      have hlen2 := swapL_length A ByteArray.empty i d
      have hst1 := hown6.stored i (.string (A.getD d ByteArray.empty))
      obtain ⟨u, c2⟩ : ∃ u, (w6.setCell ⟨g4, i, none⟩ (.string (A.getD d ByteArray.empty))).cell? ⟨g4, d, none⟩ = some u := ⟨_, by
        have h := hst1.1
        rw [textV_set] at h
        exact owns_at h (by omega) (by rw [List.length_set]; exact hA)⟩
      have f2 := hst1.1.frozenAt d
      have hdrE : ((w6.setCell ⟨g4, i, none⟩ (.string (A.getD d ByteArray.empty))).setCell ⟨g4, d, none⟩ (.string (A.getD i ByteArray.empty))).heap[w4.heap.size]? = some (.cells #[.int .i64 (y : Int)] 121 (0, 0)) := by
        rw [heap_setCell_other _ _ _ _ (by show w4.heap.size ≠ g4; omega), heap_setCell_other _ _ _ _ (by show w4.heap.size ≠ g4; omega)]; exact hdr6
      have hbE := (hb6.setCell (p := ⟨g4, i, none⟩) hg4.1 (.string (A.getD d ByteArray.empty))).setCell (p := ⟨g4, d, none⟩) hg4.1 (.string (A.getD i ByteArray.empty))
      rw [hA] at hlen2
      generalize swapL A ByteArray.empty i d = A2 at *
      generalize A.getD i ByteArray.empty = ai at *
      generalize A.getD d ByteArray.empty = ad at *
      have i1 : (0 : Int) ≤ (i : Int) := by omega
      have i2 : (i : Int) < (n : Int) := by omega
      have i3 : (0 : Int) ≤ (d : Int) := by omega
      have i4 : (d : Int) < (n : Int) := by omega
      clear hst1 hown6 hdr6 hb6 hA
      go_wp2_with fail
      go_roundw
      case rel =>
        refine ⟨i - 1, y, A2, by omega, hnx, hlen2, ?_, ?_, hend, hdrE, hbE⟩
        · show Value.int .i64 _ = Value.int .i64 _
          congr 1
          omega
        · rw [← Hmix.out, Hm2.out]
      case measure => simp [intOf]; omega
    · have hAe : A = mixFrom ByteArray.empty x0 L (n - 1) := by
        have := Hmix.out
        rw [show i = 0 by omega] at this
        exact this
      have i0 : ¬ (0 : Int) < (i : Int) := by omega
      rw [hAe] at hown
      clear hAe Hmix HA hA hi1
      go_wp2_with fail
      go_ret
      exact ⟨_, rfl, hown, hbr⟩

end Go.Proofs.Ytnjaofkieajnlaa
