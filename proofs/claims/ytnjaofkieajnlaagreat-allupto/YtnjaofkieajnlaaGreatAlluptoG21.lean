/- Texts of the proof, part 22. -/
import Derived.Test.YtnjaofkieajnlaaGreatAlluptoG11
import Derived.Test.YtnjaofkieajnlaaGreatAlluptoG20
import Derived.Test.YtnjaofkieajnlaaGreatAlluptoG6

/- The statement's own markTexts. -/
namespace Go.Proofs.YtnjaofkieajnlaaGreat
open Go.RowKit

theorem Tryz.infoTs : (Tryz.prog.info? 27).map (fun i => (i.zero, i.size, i.bytes)) = some (some (.slice none 0 0), 1, 24) := by kernel_rfl

theorem owns_shape {w : World} {base : Nat} {e : TypeId} {size : Nat} {v : Value} {n : Nat} {xs : List Value} (h : w.ownsRow base e size v n xs) : ∃ ao cap, v = .slice ao n cap := by
  rcases h.2 with ⟨h1, h2⟩ | ⟨g, cap, cur, h1, _⟩
  · exact ⟨none, 0, by rw [h1, h2]⟩
  · exact ⟨_, cap, h1⟩

theorem owns_apartT {w : World} {b1 b2 : Nat} {e1 e2 : TypeId} {s1 s2 n1 n2 : Nat} {v1 v2 : Value} {x1 x2 : List Value} (h1 : w.ownsRow b1 e1 s1 v1 n1 x1) (h2 : w.ownsRow b2 e2 s2 v2 n2 x2) (hne : e1 ≠ e2) {k : Nat} (hk : v2.ownBlock = some k) : v1.ownBlock ≠ some k := by
  obtain ⟨c, hc⟩ := owns_block h2 hk
  exact owns_other h1 hc hne

theorem rowIs_block {w : World} {b : Nat} {t : TypeId} {n : Nat} {f : Nat → Value} (h : w.rowIs b t n f) : ∃ cs, w.heap[b]? = some (.cells cs t (0, 0)) := by
  obtain ⟨cs, h1, _⟩ := h
  exact ⟨cs, h1⟩

theorem owns_keptT {w w' : World} {base : Nat} {e : TypeId} {size : Nat} {v : Value} {n : Nat} {xs : List Value} {row : Option Nat} (h : w.ownsRow base e size v n xs) (hg : w.grownBy w' row) (hne : ∀ k, v.ownBlock = some k → row ≠ some k) : w'.ownsRow base e size v n xs :=
  owns_of_block h (fun k hk => hg.block k (h.lt k hk).2 (fun x => hne k hk x.symm))

theorem grown_alloc {w w' : World} {o : Obj} {row : Option Nat} (h : (w.alloc o).grownBy w' row) : w.grownBy w' row := grownBy_of_alloc h

theorem news_rep (w : World) (g m : Nat) (u : Value) (cs : Array Value) (t : TypeId) (hc : cs.toList = List.replicate m u) (h : w.heap[g]? = some (.cells cs t (0, 0))) : ∀ j x, (List.replicate m u)[j]? = some x → w.cell? ((⟨g, 0, none⟩ : Addr).add j) = some x := fun j x hx => by
  rw [← hc] at hx
  exact World.news_of_block h j x hx

theorem fill_step (L : List ByteArray) (m : ByteArray) (i : Nat) (hi : i < L.length) : (List.replicate i m ++ L.drop i).set i m = List.replicate (i + 1) m ++ L.drop (i + 1) := by
  apply List.ext_getElem?
  intro j
  have hlen : (List.replicate i m).length = i := by simp
  by_cases e : j = i
  · subst e
    rw [List.getElem?_set_self (by simp; omega), List.getElem?_append_left (by simp), List.getElem?_replicate, if_pos (by omega)]
  · rw [List.getElem?_set_ne (fun x => e x.symm)]
    by_cases h : j < i
    · rw [List.getElem?_append_left (by simp; omega), List.getElem?_append_left (by simp; omega), List.getElem?_replicate, List.getElem?_replicate, if_pos h, if_pos (by omega)]
    · rw [List.getElem?_append_right (by simp; omega), List.getElem?_append_right (by simp; omega), List.getElem?_drop, List.getElem?_drop]
      simp
      congr 1
      omega

/-- What marking a list of texts leaves. -/
structure MarkT (w w' : World) (wb : Nat) (f : Nat → Value) (tv gv : List Value) (l : Value) (n : Nat) (v9 v10 g1 g2 g3 : Value) : Prop where
  row : w'.rowIs wb 39 14 (fun i => if i = 10 then v10 else if i = 9 then v9 else f i)
  t : w'.ownsRow 0 27 1 v9 (tv.length + 1) (tv ++ [l])
  g : w'.ownsRow 0 27 1 v10 (gv.length + 3) (gv ++ [g1, g2, g3])
  l0 : RowFull w' 9 l n (.string (stroke tv.length))
  l1 : RowFull w' 9 g1 (n + 1) (.string (stroke tv.length))
  l2 : RowFull w' 9 g2 (n + 2) (.string (stroke tv.length))
  l3 : RowFull w' 9 g3 (n + 3) (.string (stroke tv.length))
  b9 : ∀ k, v9.ownBlock = some k → (f 9).ownBlock = some k ∨ w.heap.size ≤ k
  b10 : ∀ k, v10.ownBlock = some k → (f 10).ownBlock = some k ∨ w.heap.size ≤ k
  b1 : ∀ k, g1.ownBlock = some k → l.ownBlock = some k ∨ w.heap.size ≤ k
  b2 : ∀ k, g2.ownBlock = some k → l.ownBlock = some k ∨ w.heap.size ≤ k
  b3 : ∀ k, g3.ownBlock = some k → l.ownBlock = some k ∨ w.heap.size ≤ k
  apart : ∀ k, v9.ownBlock = some k → v10.ownBlock ≠ some k
  chg : Chg (fun k => k = wb ∨ (f 9).ownBlock = some k ∨ (f 10).ownBlock = some k ∨ l.ownBlock = some k) w w'

set_option maxRecDepth 100000 in
set_option maxHeartbeats 16000000 in
theorem markTexts_any (wb : Nat) (f : Nat → Value) (tv gv : List Value) (l : Value) (n : Nat) (L : List ByteArray) (w : World) (hrow : w.rowIs wb 39 14 f) (ht : w.ownsRow 0 27 1 (f 9) tv.length tv) (hg : w.ownsRow 0 27 1 (f 10) gv.length gv) (hne : ∀ k, (f 9).ownBlock = some k → (f 10).ownBlock ≠ some k) (hl : w.ownsRow 0 9 1 l n (textV L)) (hn : n = L.length) (hn2 : n ≤ 1000) (b9 : tv.length ≤ 3000000) (b10 : gv.length ≤ 9000000) :
    Calls Tryz.prog 83 #[.pointer (some ⟨wb, 0, none⟩), l] w fun e w' => (∃ u, e = .returned u) ∧ ∃ v9 v10 g1 g2 g3, MarkT w w' wb f tv gv l n v9 v10 g1 g2 g3 := by
  obtain ⟨j0, gi, gz0, gz1, gz2⟩ := info_parts Tryz.infoText
  obtain ⟨k0, ki, kz0, kz1, kz2⟩ := info_parts Tryz.infoTs
  have hstr := fun W => strokes_any tv.length W (by omega)
  have hwl := hrow.lt
  obtain ⟨ao9, c9, e9⟩ := owns_shape ht
  have q9' : w.cell? ⟨wb, 9, none⟩ = some (.slice ao9 tv.length c9) := by rw [← e9]; exact hrow.cell (i := 9) (by omega)
  obtain ⟨rb, hrb⟩ := rowIs_block hrow
  have hlw : l.ownBlock ≠ some wb := owns_other hl hrb (by decide)
  have h9w : (f 9).ownBlock ≠ some wb := owns_other ht hrb (by decide)
  have h10w : (f 10).ownBlock ≠ some wb := owns_other hg hrb (by decide)
  have hl9 : ∀ k, (f 9).ownBlock = some k → l.ownBlock ≠ some k := fun k hk => owns_apartT hl ht (by decide) hk
  have hl10 : ∀ k, (f 10).ownBlock = some k → l.ownBlock ≠ some k := fun k hk => owns_apartT hl hg (by decide) hk
  clear hrb
  obtain ⟨aol, cl, rfl⟩ := owns_shape hl
  obtain ⟨N, hN⟩ : ∃ N, N = tv.length := ⟨_, rfl⟩
  rw [← hN] at q9' hstr
  have HNN := hide hN
  have b9' : N ≤ 3000000 := by omega
  have Hn := hide hn
  clear hN hn e9
  go_enter Tryz.func83, Tryz.ntmps83
  go_wp2_with fail
  refine (hstr _).mono ?_
  rintro e w1 ⟨rfl, hb1⟩
  have hl1 := owns_below hl hb1
  have ht1 := owns_below ht hb1
  have hg1 := owns_below hg hb1
  have hrow1 : w1.rowIs wb 39 14 f := hrow.of_block (hb1.block wb hwl)
  have hws1 := hb1.size
  clear q9' hstr
  obtain ⟨m, hm⟩ : ∃ m, m = stroke N := ⟨_, rfl⟩
  rw [← hm]
  have Hm := hide hm
  clear hm
  go_wp2_with fail
  go_loopw [17] (fun iv wr => ∃ i : Nat, i ≤ n ∧ iv = .int .i64 (i : Int) ∧ wr.ownsRow 0 9 1 (.slice aol n cl) n (textV (List.replicate i m ++ L.drop i)) ∧ Chg (fun k => (Value.slice aol n cl).ownBlock = some k) w1 wr) (fun iv _ => n - (intOf iv).toNat)
  case atStart => exact ⟨0, Nat.zero_le _, rfl, by rw [List.drop_zero]; exact hl1, Chg.refl _ _⟩
  case round =>
    clear hl1
    obtain ⟨i, hi, rfl, hown, hcg⟩ := hrel
    by_cases hlt : i < n
    · obtain ⟨g, cap, hve, _, hgl⟩ := hown.form (by omega)
      simp only [Value.slice.injEq, true_and] at hve
      obtain ⟨rfl, rfl⟩ := hve
      have c0 : wr.cell? ⟨g, i, none⟩ = some (.string ((List.replicate i m ++ L.drop i).getD i ByteArray.empty)) := owns_at hown hlt (by have := Hn.out; simp; omega)
      have f0 := hown.frozenAt i
      have hst := (hown.stored i (.string m)).1
      rw [textV_set, fill_step L m i (by have := Hn.out; omega)] at hst
      have hcg2 : Chg (fun k => (Value.slice (some ⟨g, 0, none⟩) n cl).ownBlock = some k) w1 (wr.setCell ⟨g, i, none⟩ (.string m)) := hcg.setCell (a := ⟨g, i, none⟩) (Or.inr rfl) _
      generalize (List.replicate i m ++ L.drop i).getD i ByteArray.empty = old at *
      have i1 : (0 : Int) ≤ (i : Int) := by omega
      have i2 : (i : Int) < (n : Int) := by omega
      clear hown hcg
      go_wp2_with fail
      go_roundw
      case rel => exact ⟨i + 1, by omega, by go_num, hst, hcg2⟩
      case measure => simp [intOf]; omega
    · have hin : i = n := by omega
      have i2 : ¬ (i : Int) < (n : Int) := by omega
      have hfull : RowFull wr 9 (.slice aol n cl) n (.string m) := by
        rw [hin, Hn.out, List.drop_length, List.append_nil, ← Hn.out] at hown
        unfold RowFull
        have : textV (List.replicate n m) = List.replicate n (.string m) := by unfold textV; rw [List.map_replicate]
        rwa [this] at hown
      have ht2 : wr.ownsRow 0 27 1 (f 9) tv.length tv := owns_of_block ht1 (fun k hk => hcg.block k (ht1.lt k hk).2 (fun x => hl9 k hk x))
      have hg2 : wr.ownsRow 0 27 1 (f 10) gv.length gv := owns_of_block hg1 (fun k hk => hcg.block k (hg1.lt k hk).2 (fun x => hl10 k hk x))
      have hrow2 : wr.rowIs wb 39 14 f := hrow1.of_block (hcg.block wb hrow1.lt (fun x => hlw x))
      have hc0 : Chg (fun k => k = wb ∨ (f 9).ownBlock = some k ∨ (f 10).ownBlock = some k ∨ (Value.slice aol n cl).ownBlock = some k) w wr := (Chg.of_below hb1 _).trans hcg (fun k _ h => Or.inr (Or.inr (Or.inr h)))
      have hws2 : w.heap.size ≤ wr.heap.size := Nat.le_trans hws1 hcg.size
      clear hown hin hlt hi ht1 hg1 hrow1 hcg
      obtain ⟨lv, hlv⟩ : ∃ lv, lv = Value.slice aol n cl := ⟨_, rfl⟩
      rw [← hlv] at hfull hc0 hlw hl9 hl10
      have HLV := hide hlv
      clear hlv
      go_wp2_with (at_builtin; refine wpList_append_marks _ rfl (.tmp 25) (.tmp 27) 27 rfl 9 j0 (.string ByteArray.empty) 16 Tryz.underlying27 gi gz0 gz1 gz2 rfl lv n (.string m) HLV.out.symm rfl (hfull.on ((Below.refl wr.heap.size wr).alloc (Nat.le_refl _) (.cells #[.string m] 9))) ⟨wr.heap.size, 0, none⟩ 1 1 (by decide) rfl (news_rep _ _ 1 _ _ _ rfl (heap_alloc_new wr _)) (by unfold maxLen; omega) (by omega) ?_)
      intro g1 c1 w3 r1 k1 gr1 at1 lt1
      have gr1' := grown_alloc gr1
      have hfull3 := k1 _ _ (hfull.on ((Below.refl wr.heap.size wr).alloc (Nat.le_refl _) (.cells #[.string m] 9)))
      have ht3 := owns_keptT ht2 gr1' hl9
      have hg3 := owns_keptT hg2 gr1' hl10
      have hrow3 : w3.rowIs wb 39 14 f := hrow2.of_block (gr1'.block wb hrow2.lt (fun x => hlw x.symm))
      have hc3 := hc0.grown gr1' (fun k e => Or.inr (Or.inr (Or.inr (Or.inr e))))
      have hws3 : w.heap.size ≤ w3.heap.size := Nat.le_trans hws2 gr1'.size
      have bb1 : ∀ k, (Value.slice (some ⟨g1, 0, none⟩) (n + 1) c1).ownBlock = some k → lv.ownBlock = some k ∨ w.heap.size ≤ k := fun k hk => by
        have hk' : g1 = k := by simpa [Value.ownBlock] using hk
        rcases at1 with h | h
        · exact Or.inl (by rw [h, hk'])
        · right; omega
      clear gr1 k1 gr1' hfull ht2 hg2 hrow2 hc0 hws2 at1 lt1
      go_wp2_with (at_builtin; refine wpList_append_marks _ rfl (.tmp 29) (.tmp 32) 27 rfl 9 j0 (.string ByteArray.empty) 16 Tryz.underlying27 gi gz0 gz1 gz2 rfl lv n (.string m) HLV.out.symm rfl (hfull3.on ((Below.refl w3.heap.size w3).alloc (Nat.le_refl _) (.cells #[.string m, .string m] 9))) ⟨w3.heap.size, 0, none⟩ 2 2 (by decide) rfl (news_rep _ _ 2 _ _ _ rfl (heap_alloc_new w3 _)) (by unfold maxLen; omega) (by omega) ?_)
      intro g2 c2 w4 r2 k2 gr2 at2 lt2
      have gr2' := grown_alloc gr2
      have hbA3 := (Below.refl w3.heap.size w3).alloc (Nat.le_refl _) (.cells #[.string m, .string m] 9)
      have hfull4 := k2 _ _ (hfull3.on hbA3)
      have r14 := k2 _ _ (RowFull.on r1 hbA3)
      have ht4 := owns_keptT ht3 gr2' hl9
      have hg4 := owns_keptT hg3 gr2' hl10
      have hrow4 : w4.rowIs wb 39 14 f := hrow3.of_block (gr2'.block wb hrow3.lt (fun x => hlw x.symm))
      have hc4 := hc3.grown gr2' (fun k e => Or.inr (Or.inr (Or.inr (Or.inr e))))
      have hws4 : w.heap.size ≤ w4.heap.size := Nat.le_trans hws3 gr2'.size
      have bb2 : ∀ k, (Value.slice (some ⟨g2, 0, none⟩) (n + 2) c2).ownBlock = some k → lv.ownBlock = some k ∨ w.heap.size ≤ k := fun k hk => by
        have hk' : g2 = k := by simpa [Value.ownBlock] using hk
        rcases at2 with h | h
        · exact Or.inl (by rw [h, hk'])
        · right; omega
      clear gr2 k2 gr2' hfull3 ht3 hg3 hrow3 hc3 hws3 at2 lt2 r1 hbA3
      go_wp2_with (at_builtin; refine wpList_append_marks _ rfl (.tmp 34) (.tmp 38) 27 rfl 9 j0 (.string ByteArray.empty) 16 Tryz.underlying27 gi gz0 gz1 gz2 rfl lv n (.string m) HLV.out.symm rfl (hfull4.on ((Below.refl w4.heap.size w4).alloc (Nat.le_refl _) (.cells #[.string m, .string m, .string m] 9))) ⟨w4.heap.size, 0, none⟩ 3 3 (by decide) rfl (news_rep _ _ 3 _ _ _ rfl (heap_alloc_new w4 _)) (by unfold maxLen; omega) (by omega) ?_)
      intro g3 c3 w5 r3 k3 gr3 at3 lt3
      have gr3' := grown_alloc gr3
      have hbA4 := (Below.refl w4.heap.size w4).alloc (Nat.le_refl _) (.cells #[.string m, .string m, .string m] 9)
      have hfull5 := k3 _ _ (hfull4.on hbA4)
      have r15 := k3 _ _ (RowFull.on r14 hbA4)
      have r25 := k3 _ _ (RowFull.on r2 hbA4)
      have ht5 := owns_keptT ht4 gr3' hl9
      have hg5 := owns_keptT hg4 gr3' hl10
      have hrow5 : w5.rowIs wb 39 14 f := hrow4.of_block (gr3'.block wb hrow4.lt (fun x => hlw x.symm))
      have hc5 := hc4.grown gr3' (fun k e => Or.inr (Or.inr (Or.inr (Or.inr e))))
      have hws5 : w.heap.size ≤ w5.heap.size := Nat.le_trans hws4 gr3'.size
      have bb3 : ∀ k, (Value.slice (some ⟨g3, 0, none⟩) (n + 3) c3).ownBlock = some k → lv.ownBlock = some k ∨ w.heap.size ≤ k := fun k hk => by
        have hk' : g3 = k := by simpa [Value.ownBlock] using hk
        rcases at3 with h | h
        · exact Or.inl (by rw [h, hk'])
        · right; omega
      clear gr3 k3 gr3' hfull4 ht4 hg4 hrow4 hc4 hws4 at3 lt3 r14 r2 hbA4
      obtain ⟨G1, hG1⟩ : ∃ G, G = Value.slice (some ⟨g1, 0, none⟩) (n + 1) c1 := ⟨_, rfl⟩
      obtain ⟨G2, hG2⟩ : ∃ G, G = Value.slice (some ⟨g2, 0, none⟩) (n + 2) c2 := ⟨_, rfl⟩
      obtain ⟨G3, hG3⟩ : ∃ G, G = Value.slice (some ⟨g3, 0, none⟩) (n + 3) c3 := ⟨_, rfl⟩
      rw [← hG1] at r15 bb1
      rw [← hG2] at r25 bb2
      rw [← hG3] at r3 bb3
      have hone1 : G1.oneCell' = true := by rw [hG1]; rfl
      have hone2 : G2.oneCell' = true := by rw [hG2]; rfl
      have hone3 : G3.oneCell' = true := by rw [hG3]; rfl
      have honel : lv.oneCell' = true := by rw [HLV.out]; rfl
      have HG1 := hide hG1
      have HG2 := hide hG2
      have HG3 := hide hG3
      clear hG1 hG2 hG3
      have q9 : w5.cell? ⟨wb, 9, none⟩ = some (f 9) := hrow5.cell (i := 9) (by omega)
      have f9 := hrow5.frozen 9
      have hwl5 := hrow5.lt
      obtain ⟨v9o, hv9⟩ : ∃ v, v = f 9 := ⟨_, rfl⟩
      rw [← hv9] at q9 ht5 h9w hc5
      have HV9 := hide hv9
      clear hv9
      go_wp2_with (at_builtin; refine wpList_append_lies _ rfl (.tmp 44) (.tmp 46) 36 rfl 0 27 k0 (.slice none 0 0) 1 24 Tryz.underlying36 ki kz0 kz1 kz2 rfl (by decide) _ _ _ rfl (ht5.alloc _) ⟨w5.heap.size, 0, none⟩ 1 1 [lv] (by rfl) rfl (by rw [HLV.out]; exact one_news _ _ _) (by intro u hu; simp at hu; rw [hu]; exact honel) (by decide) (by unfold maxLen; omega) (by omega) (Nat.zero_le _) (w5.heap.size + 1) (by simp) ?_)
      intro g6 c6 w6 hown6 gr6 at6 lt6
      have gr6' := grown_alloc gr6
      have p9 := (gr6'.cell_far ⟨wb, 9, none⟩ hwl5 (fun e => h9w e.symm)).trans q9
      have z9 := (gr6'.frozen_far ⟨wb, 9, none⟩ hwl5 (fun e => h9w e.symm)).trans f9
      have hne9 : ∀ k, v9o.ownBlock = some k → (f 10).ownBlock ≠ some k := fun k hk => hne k (by rw [← HV9.out]; exact hk)
      have hg6 := owns_keptT hg5 gr6' (fun k hk x => hne9 k x hk)
      have far6 : ∀ {v : Value} {n' : Nat}, RowFull w5 9 v n' (.string m) → RowFull w6 9 v n' (.string m) := fun h => owns_keptT h gr6' (fun k hk x => owns_apartT h ht5 (by decide) x hk)
      have s0 := far6 hfull5
      have s1 := far6 r15
      have s2 := far6 r25
      have s3 := far6 r3
      have hrow6 : w6.rowIs wb 39 14 f := hrow5.of_block (gr6'.block wb hwl5 (fun x => h9w x.symm))
      have hc6 := hc5.grown gr6' (fun k e => Or.inr (Or.inr (Or.inl e)))
      have hws6 : w.heap.size ≤ w6.heap.size := Nat.le_trans hws5 gr6'.size
      obtain ⟨V9, hV9⟩ : ∃ V, V = Value.slice (some ⟨g6, 0, none⟩) (tv.length + 1) c6 := ⟨_, rfl⟩
      have bb9 : ∀ k, V9.ownBlock = some k → v9o.ownBlock = some k ∨ w.heap.size ≤ k := fun k hk => by
        rw [hV9] at hk
        have hk' : g6 = k := by simpa [Value.ownBlock] using hk
        rcases at6 with h | h
        · exact Or.inl (by rw [h, hk'])
        · right; omega
      have hap9 : ∀ k, V9.ownBlock = some k → (f 10).ownBlock ≠ some k := fun k hk x => by
        rcases at6 with h | h
        · rw [hV9] at hk
          have hk' : g6 = k := by simpa [Value.ownBlock] using hk
          exact hne9 k (by rw [h, hk']) x
        · rw [hV9] at hk
          have hk' : g6 = k := by simpa [Value.ownBlock] using hk
          have := (hg5.lt k x).2
          omega
      have hV9w : V9.ownBlock ≠ some wb := fun x => by
        rcases bb9 wb x with h | h
        · exact h9w h
        · omega
      rw [← hV9] at hown6
      clear gr6 gr6' hfull5 r15 r25 r3 ht5 hg5 hrow5 hc5 hws5 at6 lt6 q9 f9 far6
      have hrow7 := hrow6.set 9 V9
      have hown7 : (w6.setCell ⟨wb, 9, none⟩ V9).ownsRow 0 27 1 V9 (tv.length + 1) (tv ++ [lv]) := owns_of_block hown6 (fun k hk => heap_setCell_other _ _ _ _ (fun e => hV9w (by rw [hk, e])))
      have hg7 : (w6.setCell ⟨wb, 9, none⟩ V9).ownsRow 0 27 1 (f 10) gv.length gv := owns_of_block hg6 (fun k hk => heap_setCell_other _ _ _ _ (fun e => h10w (by rw [hk, e])))
      have hbw : ∃ cs, w6.heap[wb]? = some (.cells cs 39 (0, 0)) := rowIs_block hrow6
      obtain ⟨rb6, hrb6⟩ := hbw
      have far7 : ∀ {v : Value} {n' : Nat}, RowFull w6 9 v n' (.string m) → RowFull (w6.setCell ⟨wb, 9, none⟩ V9) 9 v n' (.string m) := fun h => owns_of_block h (fun k hk => heap_setCell_other _ _ _ _ (fun e => owns_other h hrb6 (by decide) (by rw [hk, e])))
      have t0 := far7 s0
      have t1 := far7 s1
      have t2 := far7 s2
      have t3 := far7 s3
      have hc7 := hc6.setCell (a := ⟨wb, 9, none⟩) (Or.inr (Or.inl rfl)) V9
      have hws7 : w.heap.size ≤ (w6.setCell ⟨wb, 9, none⟩ V9).heap.size := by simpa using hws6
      subst hV9
      clear far7 hrb6 s0 s1 s2 s3 hc6 hws6 hown6 hg6 hrow6 rb6
      go_upto_region 10 with fail
      generalize w6.setCell ⟨wb, 9, none⟩ (.slice (some ⟨g6, 0, none⟩) (tv.length + 1) c6) = w7 at *
      have q10 : w7.cell? ⟨wb, 10, none⟩ = some (f 10) := by have := hrow7.cell (i := 10) (by omega); exact this
      have f10 := hrow7.frozen 10
      have hwl7 := hrow7.lt
      clear p9 z9
      obtain ⟨v10o, hv10⟩ : ∃ v, v = f 10 := ⟨_, rfl⟩
      rw [← hv10] at q10 hg7 h10w hc7 hap9
      have HV10 := hide hv10
      clear hv10 hne9
      go_wp2_with (at_builtin; refine wpList_append_lies _ rfl (.tmp 54) (.tmp 58) 36 rfl 0 27 k0 (.slice none 0 0) 1 24 Tryz.underlying36 ki kz0 kz1 kz2 rfl (by decide) _ _ _ rfl (hg7.alloc _) ⟨w7.heap.size, 0, none⟩ 3 3 [G1, G2, G3] (by rfl) rfl (by rw [HG1.out, HG2.out, HG3.out]; exact World.news_of_block (cs := #[_, _, _]) (heap_alloc_new w7 _)) (by intro u hu; simp at hu; rcases hu with rfl | rfl | rfl <;> assumption) (by decide) (by unfold maxLen; omega) (by omega) (Nat.zero_le _) (w7.heap.size + 1) (by simp) ?_)
      intro g8 c8 w8 hown8 gr8 at8 lt8
      have gr8' := grown_alloc gr8
      have p10 := (gr8'.cell_far ⟨wb, 10, none⟩ hwl7 (fun e => h10w e.symm)).trans q10
      have z10 := (gr8'.frozen_far ⟨wb, 10, none⟩ hwl7 (fun e => h10w e.symm)).trans f10
      have hown9 := owns_keptT hown7 gr8' (fun k hk x => hap9 k hk x)
      have far8 : ∀ {v : Value} {n' : Nat}, RowFull w7 9 v n' (.string m) → RowFull w8 9 v n' (.string m) := fun h => owns_keptT h gr8' (fun k hk x => owns_apartT h hg7 (by decide) x hk)
      have s0 := far8 t0
      have s1 := far8 t1
      have s2 := far8 t2
      have s3 := far8 t3
      have hrow8 := hrow7.of_block (gr8'.block wb hwl7 (fun x => h10w x.symm))
      have hc8 := hc7.grown gr8' (fun k e => Or.inr (Or.inr (Or.inr (Or.inl e))))
      have hws8 : w.heap.size ≤ w8.heap.size := Nat.le_trans hws7 gr8'.size
      have bb10 : ∀ k, (Value.slice (some ⟨g8, 0, none⟩) (gv.length + 3) c8).ownBlock = some k → v10o.ownBlock = some k ∨ w.heap.size ≤ k := fun k hk => by
        have hk' : g8 = k := by simpa [Value.ownBlock] using hk
        rcases at8 with h | h
        · exact Or.inl (by rw [h, hk'])
        · right; omega
      have hap : ∀ k, (Value.slice (some ⟨g6, 0, none⟩) (tv.length + 1) c6).ownBlock = some k → (Value.slice (some ⟨g8, 0, none⟩) (gv.length + 3) c8).ownBlock ≠ some k := fun k hk x => by
        have hk' : g8 = k := by simpa [Value.ownBlock] using x
        rcases at8 with h | h
        · exact hap9 k hk (by rw [h, hk'])
        · have := (hown7.lt k hk).2
          omega
      have hV10w : (Value.slice (some ⟨g8, 0, none⟩) (gv.length + 3) c8).ownBlock ≠ some wb := fun x => by
        rcases bb10 wb x with h | h
        · exact h10w h
        · omega
      obtain ⟨rb8, hrb8⟩ := rowIs_block hrow8
      have far9 : ∀ {v : Value} {n' : Nat}, RowFull w8 9 v n' (.string m) → RowFull (w8.setCell ⟨wb, 10, none⟩ (.slice (some ⟨g8, 0, none⟩) (gv.length + 3) c8)) 9 v n' (.string m) := fun h => owns_of_block h (fun k hk => heap_setCell_other _ _ _ _ (fun e => owns_other h hrb8 (by decide) (by rw [hk, e])))
      have hend : ∃ v9 v10 g1 g2 g3, MarkT w (w8.setCell ⟨wb, 10, none⟩ (.slice (some ⟨g8, 0, none⟩) (gv.length + 3) c8)) wb f tv gv (.slice aol n cl) n v9 v10 g1 g2 g3 := by
        refine ⟨.slice (some ⟨g6, 0, none⟩) (tv.length + 1) c6, .slice (some ⟨g8, 0, none⟩) (gv.length + 3) c8, G1, G2, G3, ?_⟩
        rw [← HLV.out]
        have hm : m = stroke tv.length := by rw [← HNN.out]; exact Hm.out
        rw [HV9.out] at bb9 hc8
        rw [HV10.out] at bb10 hc8
        refine ⟨(hrow8.set 10 _).congr (fun i _ => rfl), owns_of_block hown9 (fun k hk => heap_setCell_other _ _ _ _ (fun e => hV9w (by rw [hk, e]))), owns_of_block hown8 (fun k hk => heap_setCell_other _ _ _ _ (fun e => hV10w (by rw [hk, e]))), ?_, ?_, ?_, ?_, bb9, bb10, bb1, bb2, bb3, hap, hc8.setCell (a := ⟨wb, 10, none⟩) (Or.inr (Or.inl rfl)) _⟩
        · rw [← hm]; exact far9 s0
        · rw [← hm]; exact far9 s1
        · rw [← hm]; exact far9 s2
        · rw [← hm]; exact far9 s3
      clear far9 far8 hown8 hown9 hown7 hg7 hrow7 hrow8 hc7 hc8 s0 s1 s2 s3 t0 t1 t2 t3 bb9 bb10 bb1 bb2 bb3 hap gr8 gr8' at8 q10 f10
      go_wp2_with fail
      go_end0
      exact ⟨⟨_, rfl⟩, hend⟩

end Go.Proofs.YtnjaofkieajnlaaGreat

/- Lists of rows that are owned: whether two are the same, and copied. -/
namespace Go.Proofs.YtnjaofkieajnlaaGreat
open Go.RowKit

theorem Tryz.infoIs : (Tryz.prog.info? 63).map (fun i => (i.zero, i.size, i.bytes)) = some (some (.slice none 0 0), 1, 24) := by kernel_rfl

/-- A list of rows, with the blocks of all. -/
structure RowsOwn (w : World) (v : Value) (M : Nat) (rv : Nat → Value) (L : Nat → List Nat) : Prop where
  spine : w.ownsRow 0 63 1 v M ((List.range M).map rv)
  rows : ∀ i, i < M → w.ownsRow 0 3 1 (rv i) (L i).length (numsV (L i))
  apart : ∀ i j, i < M → j < M → i ≠ j → ∀ k, (rv i).ownBlock = some k → (rv j).ownBlock ≠ some k

def fpRows (v : Value) (M : Nat) (rv : Nat → Value) (k : Nat) : Prop := v.ownBlock = some k ∨ ∃ i, i < M ∧ (rv i).ownBlock = some k

namespace RowsOwn
variable {w w' : World} {v : Value} {M : Nat} {rv : Nat → Value} {L : Nat → List Nat}

theorem lt (h : RowsOwn w v M rv L) {k : Nat} (hk : fpRows v M rv k) : k < w.heap.size := by
  rcases hk with hk | ⟨i, hi, hk⟩
  · exact (h.spine.lt k hk).2
  · exact ((h.rows i hi).lt k hk).2

theorem blocks (h : RowsOwn w v M rv L) (hb : ∀ k, fpRows v M rv k → w'.heap[k]? = w.heap[k]?) : RowsOwn w' v M rv L :=
  ⟨owns_of_block h.spine (fun k hk => hb k (Or.inl hk)), fun i hi => owns_of_block (h.rows i hi) (fun k hk => hb k (Or.inr ⟨i, hi, hk⟩)), h.apart⟩

theorem on (h : RowsOwn w v M rv L) (hb : Below w.heap.size w w') : RowsOwn w' v M rv L := h.blocks (fun k hk => hb.block k (h.lt hk))

theorem nil (w : World) (rv : Nat → Value) (L : Nat → List Nat) : RowsOwn w (.slice none 0 0) 0 rv L := ⟨World.ownsRow_nil _ _ _ _, fun _ hi => absurd hi (Nat.not_lt_zero _), fun _ _ hi => absurd hi (Nat.not_lt_zero _)⟩

theorem of_at {base g : Nat} (h : RowsAt w base g M rv L) (hM : M ≤ 1000) : RowsOwn w (.slice (some ⟨g, 0, none⟩) M M) M rv L := by
  refine ⟨⟨by simp, .inr ?_⟩, fun i hi => owns_low (h.own i hi) (Nat.zero_le _), h.apart⟩
  obtain ⟨cs, h1, h2, h3⟩ := h.row
  refine ⟨g, M, cs, rfl, Nat.zero_le _, h1, Nat.le_refl _, by unfold maxLen; omega, by omega, ?_⟩
  apply List.ext_getElem?
  intro j
  rw [Nat.mul_one, List.getElem?_take]
  by_cases hj : j < M
  · rw [if_pos hj, List.getElem?_map, List.getElem?_range hj, Array.getElem?_toList, h3 j hj]; rfl
  · rw [if_neg hj, List.getElem?_eq_none (by simp; omega)]

/-- How a row is read. -/
theorem read (h : RowsOwn w v M rv L) : ∃ ao cap, v = .slice ao M cap ∧ ∀ i, i < M → ∃ q, ao = some ⟨q, 0, none⟩ ∧ q < w.heap.size ∧ w.cell? ⟨q, i, none⟩ = some (rv i) := by
  rcases h.spine.2 with ⟨rfl, rfl⟩ | ⟨g, cap, cur, rfl, _, hg, _⟩
  · exact ⟨none, 0, rfl, fun i hi => absurd hi (Nat.not_lt_zero _)⟩
  · refine ⟨_, cap, rfl, fun i hi => ⟨g, rfl, (Array.getElem?_eq_some_iff.1 hg).1, ?_⟩⟩
    rw [h.spine.cellAt i (by omega), List.getElem?_map, List.getElem?_range hi]; rfl

end RowsOwn

set_option maxRecDepth 100000 in
set_option maxHeartbeats 4000000 in
theorem sameRows_own (va vb : Value) (M : Nat) (rv1 rv2 : Nat → Value) (L : Nat → List Nat) (w : World) (hM : M ≤ 20) (hL : ∀ i, i < M → (L i).length ≤ 1000) (h1 : RowsOwn w va M rv1 L) (h2 : RowsOwn w vb M rv2 L) :
    Calls Tryz.prog 19 #[va, vb] w fun e w' => e = .returned (.bool true) ∧ Below w.heap.size w w' := by
  obtain ⟨a1, p1, rfl, v1⟩ := h1.read
  obtain ⟨a2, p2, rfl, v2⟩ := h2.read
  have HV1 := hide v1
  have HV2 := hide v2
  have HR1 := hide h1.rows
  have HR2 := hide h2.rows
  clear v1 v2 h1 h2
  go_enter Tryz.func19, Tryz.ntmps19
  go_wp2_with fail
  go_loopw [14] (fun i wr => ∃ k : Nat, k ≤ M ∧ i = .int .i64 k ∧ Below w.heap.size w wr) (fun i _ => M - (intOf i).toNat)
  case atStart => exact ⟨0, Nat.zero_le _, rfl, Below.refl _ _⟩
  case round =>
    obtain ⟨i, hi, rfl, hbr⟩ := hrel
    by_cases hiM : i < M
    · obtain ⟨q1, rfl, hq1, d1⟩ := HV1.out i hiM
      obtain ⟨q2, rfl, hq2, d2⟩ := HV2.out i hiM
      obtain ⟨b1, p3, e1, x1⟩ := owns_view (HR1.out i hiM)
      obtain ⟨b2, p4, e2, x2⟩ := owns_view (HR2.out i hiM)
      have o1 := HR1.out i hiM
      have o2 := HR2.out i hiM
      have hlt1 : ∀ k, k < (L i).length → ∃ q, b1 = some ⟨q, 0, none⟩ ∧ q < w.heap.size ∧ w.cell? ⟨q, k, none⟩ = some (.int .i64 ((L i).getD k 0 : Int)) := fun k hk => by
        obtain ⟨q, y1, y2⟩ := x1 k hk
        exact ⟨q, y1, (o1.lt q (by rw [e1, y1]; rfl)).2, y2⟩
      have hlt2 : ∀ k, k < (L i).length → ∃ q, b2 = some ⟨q, 0, none⟩ ∧ q < w.heap.size ∧ w.cell? ⟨q, k, none⟩ = some (.int .i64 ((L i).getD k 0 : Int)) := fun k hk => by
        obtain ⟨q, y1, y2⟩ := x2 k hk
        exact ⟨q, y1, (o2.lt q (by rw [e2, y1]; rfl)).2, y2⟩
      rw [e1] at d1
      rw [e2] at d2
      have HX1 := hide hlt1
      have HX2 := hide hlt2
      clear x1 x2 e1 e2 o1 o2 hlt1 hlt2
      have hLi := hL i hiM
      have j1 : (0 : Int) ≤ (i : Int) := by omega
      have j2 : (i : Int) < (M : Int) := by omega
      obtain ⟨ln, hln⟩ : ∃ ln, ln = (L i).length := ⟨_, rfl⟩
      rw [← hln] at d1 d2 hLi HX1 HX2
      clear hln
      have c1 := (hbr.cell (p := ⟨q1, i, none⟩) hq1).trans d1
      have c2 := (hbr.cell (p := ⟨q2, i, none⟩) hq2).trans d2
      go_wp2_with fail
      go_quiet (fail)
      have hbq : Below w.heap.size w (wr.drewN nq) := hbr.trans ⟨rfl, rfl, rfl, Nat.le_refl _, fun _ _ => rfl⟩
      have c1' := (hbq.cell (p := ⟨q1, i, none⟩) hq1).trans d1
      have c2' := (hbq.cell (p := ⟨q2, i, none⟩) hq2).trans d2
      generalize wr.drewN nq = V at *
      clear hbr c1 c2
      go_wp2_with fail
      clear c1' c2'
      go_loopw [33] (fun t wr => ∃ k : Nat, k ≤ ln ∧ t = .int .i64 k ∧ Below w.heap.size w wr) (fun t _ => ln - (intOf t).toNat)
      case atStart => exact ⟨0, Nat.zero_le _, rfl, hbq⟩
      case round =>
        clear hbq
        obtain ⟨k, hk, rfl, hbr⟩ := hrel
        by_cases hkl : k < ln
        · have c1 := (hbr.cell (p := ⟨q1, i, none⟩) hq1).trans d1
          have c2 := (hbr.cell (p := ⟨q2, i, none⟩) hq2).trans d2
          obtain ⟨t1, rfl, ht1, y1⟩ := HX1.out k hkl
          obtain ⟨t2, rfl, ht2, y2⟩ := HX2.out k hkl
          have z1 := (hbr.cell (p := ⟨t1, k, none⟩) ht1).trans y1
          have z2 := (hbr.cell (p := ⟨t2, k, none⟩) ht2).trans y2
          have k1 : (0 : Int) ≤ (k : Int) := by omega
          have k2 : (k : Int) < (ln : Int) := by omega
          generalize (L i).getD k 0 = x at *
          clear y1 y2
          have hbN : ∀ x, Below w.heap.size w (wr.drewN x) := fun x => hbr.trans ⟨rfl, rfl, rfl, Nat.le_refl _, fun _ _ => rfl⟩
          go_wp2_with fail
          go_quiet (fail)
          have hbq := hbN nq
          generalize wr.drewN nq = V2 at *
          clear hbr c1 c2 z1 z2 hbN
          go_wp2_with fail
          go_roundw
          case rel => exact ⟨k + 1, by omega, by go_num, hbq⟩
          case measure => simp [intOf]; omega
        · have k2 : ¬ (k : Int) < (ln : Int) := by omega
          go_wp2_with fail
          go_roundw
          case rel => exact ⟨i + 1, by omega, by go_num, hbr⟩
          case measure => simp [intOf]; omega
    · have j2 : ¬ (i : Int) < (M : Int) := by omega
      go_wp2_with fail
      go_ret
      exact ⟨rfl, hbr⟩

/-- A row's cells, to be appended. -/
theorem news_nums {w : World} {g n cap : Nat} {l : List Nat} (h : w.ownsRow 0 3 1 (.slice (some ⟨g, 0, none⟩) n cap) n (numsV l)) : ∀ j u, (numsV l)[j]? = some u → w.cell? ((⟨g, 0, none⟩ : Addr).add j) = some u := h.cells (g := g) rfl

theorem numsV_one (l : List Nat) : ∀ u ∈ numsV l, u.oneCell' = true := fun u hu => by
  obtain ⟨x, _, rfl⟩ := List.mem_map.1 hu
  rfl

set_option maxRecDepth 100000 in
set_option maxHeartbeats 8000000 in
theorem copied_any (v : Value) (M : Nat) (rv : Nat → Value) (L : Nat → List Nat) (w : World) (hM : M ≤ 20) (hL : ∀ i, i < M → 1 ≤ (L i).length ∧ (L i).length ≤ 1000) (h : RowsOwn w v M rv L) :
    Calls Tryz.prog 70 #[v] w fun e w' => ∃ v', e = .returned v' ∧ ∃ rv', RowsOwn w' v' M rv' L ∧ (∀ k, fpRows v' M rv' k → w.heap.size ≤ k) ∧ Below w.heap.size w w' := by
  obtain ⟨j0, gi, gz0, gz1, gz2⟩ := info_parts Tryz.infoIs
  obtain ⟨n0, ni, nz0, nz1, nz2⟩ := info_parts Tryz.infoInt
  obtain ⟨a1, p1, rfl, v1⟩ := h.read
  have HV := hide v1
  have HR := hide h.rows
  clear v1 h
  go_enter Tryz.func70, Tryz.ntmps70
  go_wp2_with fail
  go_loopw [3, 4] (fun ov iv wr => ∃ (i : Nat) (rv' : Nat → Value), i ≤ M ∧ iv = .int .i64 (i : Int) ∧ RowsOwn wr ov i rv' L ∧ (∀ k, fpRows ov i rv' k → w.heap.size ≤ k) ∧ Below w.heap.size w wr) (fun _ iv _ => M - (intOf iv).toNat)
  case atStart => exact ⟨0, fun _ => .slice none 0 0, Nat.zero_le _, rfl, RowsOwn.nil _ _ _, fun k hk => by
      rcases hk with hk | ⟨i, hi, _⟩
      · simp [Value.ownBlock] at hk
      · exact absurd hi (Nat.not_lt_zero _), Below.refl _ _⟩
  case round =>
    obtain ⟨i, rv', hi, rfl, hro, hfp, hbr⟩ := hrel
    by_cases hiM : i < M
    · obtain ⟨q1, rfl, hq1, d1⟩ := HV.out i hiM
      have o1 := HR.out i hiM
      have hLi := hL i hiM
      obtain ⟨g, cap, e1, _, hgl⟩ := o1.form (by omega)
      rw [e1] at d1 o1
      have c1 := (hbr.cell (p := ⟨q1, i, none⟩) hq1).trans d1
      have o1r : wr.ownsRow 0 3 1 (.slice (some ⟨g, 0, none⟩) (L i).length cap) (L i).length (numsV (L i)) := owns_of_block o1 (fun k hk => hbr.block k (o1.lt k hk).2)
      have hnw := news_nums o1r
      have hln := numsV_length (L i)
      have hon := numsV_one (L i)
      have j1 : (0 : Int) ≤ (i : Int) := by omega
      have j2 : (i : Int) < (M : Int) := by omega
      have Hfin : Hid (∀ (v' : Value) (w2 : World) (g5 cap5 : Nat) (w5 : World), w2.ownsRow 0 3 1 v' (L i).length (numsV (L i)) → Below wr.heap.size wr w2 → (∀ k, v'.ownBlock = some k → wr.heap.size ≤ k) → w5.ownsRow 0 63 1 (.slice (some ⟨g5, 0, none⟩) (i + 1) cap5) (i + 1) ((List.range i).map rv' ++ [v']) → w2.grownBy w5 u3.ownBlock → (u3.ownBlock = some g5 ∨ w2.heap.size ≤ g5) → RowsOwn w5 (.slice (some ⟨g5, 0, none⟩) (i + 1) cap5) (i + 1) (fun j => if j = i then v' else rv' j) L ∧ (∀ k, fpRows (.slice (some ⟨g5, 0, none⟩) (i + 1) cap5) (i + 1) (fun j => if j = i then v' else rv' j) k → w.heap.size ≤ k) ∧ Below w.heap.size w w5) := hide (fun v' w2 g5 cap5 w5 ho hb2 hfr ho5 hgr hat => by
        have hro2 := hro.on hb2
        have hws := hbr.size
        have hb02 := hbr.trans (hb2.mono hbr.size)
        have hlist : (List.range i).map rv' ++ [v'] = (List.range (i + 1)).map (fun j => if j = i then v' else rv' j) := by
          rw [List.range_succ, List.map_append]
          congr 1
          · exact List.map_congr_left (fun j hj => by rw [if_neg (by have := List.mem_range.1 hj; omega)])
          · simp
        rw [hlist] at ho5
        have hnew : ∀ k, u3.ownBlock = some k → w.heap.size ≤ k := fun k hk => hfp k (Or.inl hk)
        refine ⟨⟨ho5, fun j hj => ?_, fun a b ha hb hab k hk => ?_⟩, fun k hk => ?_, hb02.grown hgr hb02.size (fun k e => hnew k e)⟩
        · by_cases e : j = i
          · rw [if_pos e, e]
            exact owns_keptT ho hgr (fun k hk x => owns_apartT ho hro2.spine (by decide) x hk)
          · rw [if_neg e]
            exact owns_keptT (hro2.rows j (by omega)) hgr (fun k hk x => owns_apartT (hro2.rows j (by omega)) hro2.spine (by decide) x hk)
        · by_cases ea : a = i
          · rw [if_pos ea] at hk
            rw [if_neg (fun e => hab (ea.trans e.symm))]
            intro x
            have h1 := hfr k hk
            have h2 := ((hro.rows b (by omega)).lt k x).2
            omega
          · rw [if_neg ea] at hk
            by_cases eb : b = i
            · rw [if_pos eb]
              intro x
              have h1 := hfr k x
              have h2 := ((hro.rows a (by omega)).lt k hk).2
              omega
            · rw [if_neg eb]
              exact hro.apart a b (by omega) (by omega) hab k hk
        · rcases hk with hk | ⟨j, hj, hk⟩
          · have hk' : g5 = k := by simpa [Value.ownBlock] using hk
            rcases hat with h | h
            · exact hnew k (by rw [h, hk'])
            · have := hb2.size; omega
          · dsimp only at hk
            by_cases e : j = i
            · rw [if_pos e] at hk
              have := hfr k hk
              omega
            · rw [if_neg e] at hk
              exact hfp k (Or.inr ⟨j, by omega, hk⟩))
      have hsp := hro.spine
      clear hro hfp hL
      obtain ⟨ln, hlnn⟩ : ∃ ln, ln = (L i).length := ⟨_, rfl⟩
      rw [← hlnn] at c1 hLi hln Hfin
      clear hlnn o1 o1r e1 d1
      generalize numsV (L i) = xs at *
      go_wp2_with (at_builtin; refine wpList_append_lies _ rfl (.tmp 12) (.tmp 16) 63 rfl wr.heap.size 3 n0 (.int .i64 0) 1 8 Tryz.underlying63 ni nz0 nz1 nz2 rfl (by decide) _ _ _ rfl (World.ownsRow_nil wr wr.heap.size 3 1) ⟨g, 0, none⟩ ln cap xs rfl (by rw [hln]; omega) hnw hon (by omega) (by unfold maxLen; omega) (by omega) (Nat.le_refl _) wr.heap.size rfl ?_)
      intro g2 c2 w2 hown2 gr2 at2 lt2
      have hb2 : Below wr.heap.size wr w2 := (Below.refl _ _).grown gr2 (Nat.le_refl _) (fun k e => by simp [Value.ownBlock] at e)
      have hown2' : w2.ownsRow 0 3 1 (.slice (some ⟨g2, 0, none⟩) ln c2) ln xs := by
        have := owns_low hown2 (Nat.zero_le _)
        simpa using this
      have hfr : ∀ k, (Value.slice (some ⟨g2, 0, none⟩) ln c2).ownBlock = some k → wr.heap.size ≤ k := fun k hk => (hown2.lt k (by simpa [Value.ownBlock] using hk)).1
      have hsp2 := owns_of_block (w' := w2) hsp (fun k hk => hb2.block k (hsp.lt k hk).2)
      have hw2 := hb2.size
      clear hown2 gr2 at2 lt2 hnw c1 hsp
      obtain ⟨V2, hV2⟩ : ∃ V, V = Value.slice (some ⟨g2, 0, none⟩) ln c2 := ⟨_, rfl⟩
      rw [← hV2] at hown2' hfr
      have HV2 := hide hV2
      have hone2 : V2.oneCell' = true := by rw [hV2]; rfl
      clear hV2
      go_wp2_with (at_builtin; refine wpList_append_lies _ rfl (.tmp 18) (.tmp 20) 32 rfl 0 63 j0 (.slice none 0 0) 1 24 Tryz.underlying32 gi gz0 gz1 gz2 rfl (by decide) _ _ _ rfl (hsp2.alloc _) ⟨w2.heap.size, 0, none⟩ 1 1 [V2] (by rfl) rfl (by rw [HV2.out]; exact one_news _ _ _) (by intro u hu; simp at hu; rw [hu]; exact hone2) (by decide) (by unfold maxLen; omega) (by omega) (Nat.zero_le _) (w2.heap.size + 1) (by simp) ?_)
      intro g5 c5 w5 hown5 gr5 at5 lt5
      obtain ⟨z1, z2, z3⟩ := Hfin.out V2 w2 g5 c5 w5 hown2' hb2 hfr hown5 (grown_alloc gr5) (by rcases at5 with h | h; exact Or.inl h; right; omega)
      clear Hfin hown2' hown5 gr5 at5 lt5 hsp2 hb2 hfr
      go_wp2_with fail
      go_roundw
      case rel => exact ⟨i + 1, _, by omega, by go_num, z1, z2, z3⟩
      case measure => simp [intOf]; omega
    · have hii : i = M := by omega
      have j2 : ¬ (i : Int) < (M : Int) := by omega
      rw [hii] at hro hfp
      clear hii hiM
      go_wp2_with fail
      go_ret
      exact ⟨_, rfl, _, hro, hfp, hbr⟩

end Go.Proofs.YtnjaofkieajnlaaGreat
