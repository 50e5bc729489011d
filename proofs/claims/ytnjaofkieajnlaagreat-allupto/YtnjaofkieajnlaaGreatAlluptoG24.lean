/- Texts of the proof, part 25. -/
import Derived.Deep.RegionHeld3
import Derived.Test.YtnjaofkieajnlaaGreatAlluptoG23
import Derived.Test.YtnjaofkieajnlaaGreatAlluptoG7

/- The statement's own takeTexts. -/
namespace Go.Proofs.YtnjaofkieajnlaaGreat
open Go.RowKit

/-- What taking a list leaves. -/
structure TookL (w w' : World) (wb : Nat) (f : Nat → Value) (col : Nat → Nat) (N : Nat) : Prop where
  ex : ∃ f' col' s', w'.rowIs wb 39 14 f' ∧ ListsAt w' f' col' (N + 2) s' ∧ (∀ i, 6 ≤ i → i ≤ 8 → f' i = f i) ∧ (∀ k, k < w.heap.size → col k ≤ 3 → col' k = col k)
  chg : Chg (fun k => k = wb ∨ 4 ≤ col k) w w'

theorem sameTexts_below (v1 v2 : Value) (l : List ByteArray) (w : World) (hl : l.length ≤ 1000) (h1 : w.ownsRow 0 9 1 v1 l.length (textV l)) (h2 : w.ownsRow 0 9 1 v2 l.length (textV l)) :
    Calls Tryz.prog 18 #[v1, v2] w fun e w' => e = .returned (.bool true) ∧ Below w.heap.size w w' :=
  (sameTexts_yes v1 v2 l w (by omega) (owns_texts h1 rfl) (owns_texts h2 rfl)).mono fun _ _ ⟨he, hc⟩ => ⟨he, hc.below (fun _ _ x => x)⟩

set_option maxRecDepth 100000 in
set_option maxHeartbeats 16000000 in
theorem takeTexts_any (wb : Nat) (f : Nat → Value) (col : Nat → Nat) (N : Nat) (s : LS) (l : Value) (L : List ByteArray) (w : World) (hrow : w.rowIs wb 39 14 f) (h : ListsAt w f col N s) (hwb : col wb = 0) (hl : w.ownsRow 0 9 1 l L.length (textV L)) (hL : L.length ≤ 1000) (hlc : Col col 15 l) (hN : N ≤ 2900000) :
    Calls Tryz.prog 50 #[.pointer (some ⟨wb, 0, none⟩), l] w fun e w' => (∃ u, e = .returned u) ∧ TookL w w' wb f col N := by
  obtain ⟨j0, gi, gz0, gz1, gz2⟩ := info_parts Tryz.infoText
  have hwl := hrow.lt
  obtain ⟨al, cl, hle⟩ := owns_shape hl
  obtain ⟨n, hn⟩ : ∃ n, n = L.length := ⟨_, rfl⟩
  have hl' := hl
  rw [hle] at hl'
  rw [← hn] at hl' hle
  have HLE := hide hle
  have HN := hide hn
  have hn2 : n ≤ 1000 := by omega
  clear hle hn
  go_enter Tryz.func50, Tryz.ntmps50
  rw [HLE.out]
  go_upto_region 1 with fail
  go_cut [4] (fun s4 wc => wc.ownsRow w.heap.size 9 1 s4 n (textV L) ∧ Below w.heap.size w wc)
  case first =>
    by_cases h0 : n = 0
    · have hL0 : textV L = [] := by
        have : L.length = 0 := by rw [← HN.out]; exact h0
        rw [List.eq_nil_of_length_eq_zero this]; rfl
      have HL0 := hide hL0
      subst h0
      clear hL0 hl' h hl
      cases al with
      | none =>
        go_wp2_with fail
        go_meet
        case rel => exact ⟨by rw [HL0.out]; exact World.ownsRow_nil _ _ _ _, by first | exact Below.refl _ _ | exact (Below.refl _ _).drew⟩
      | some a =>
        go_wp2_with fail
        go_meet
        case rel => exact ⟨by rw [HL0.out]; exact World.ownsRow_nil _ _ _ _, by first | exact Below.refl _ _ | exact (Below.refl _ _).drew⟩
    · obtain ⟨g, cap, hve, _, hgl⟩ := hl'.form (by omega)
      simp only [Value.slice.injEq, true_and] at hve
      obtain ⟨rfl, rfl⟩ := hve
      have hnw := hl'.cells (g := g) rfl
      have hlen := textV_length L
      rw [← HN.out] at hlen
      have hone := textV_one L
      have HX := hide (And.intro hnw hone)
      clear hnw hone h hl
      go_wp2_with (at_builtin; refine wpList_append_lies _ rfl (.tmp 7) (.tmp 8) 27 rfl w.heap.size 9 j0 (.string ByteArray.empty) 1 16 Tryz.underlying27 gi gz0 gz1 gz2 rfl (by decide) _ _ _ rfl (World.ownsRow_nil w w.heap.size 9 1) ⟨g, 0, none⟩ n cl (textV L) rfl (by rw [hlen]; omega) HX.out.1 HX.out.2 (by omega) (by unfold maxLen; omega) (by omega) (Nat.le_refl _) w.heap.size rfl ?_)
      intro g2 c2 w2 hown2 gr2 at2 lt2
      have hb2 : Below w.heap.size w w2 := (Below.refl _ _).grown gr2 (Nat.le_refl _) (fun k e => by simp [Value.ownBlock] at e)
      have hown2' : w2.ownsRow w.heap.size 9 1 (.slice (some ⟨g2, 0, none⟩) n c2) n (textV L) := by simpa using hown2
      have HY := hide (And.intro hown2' hb2)
      clear hown2 hown2' hb2 gr2 at2 lt2
      go_wp2_with fail
      go_meet
      case rel => exact HY.out
  case rest =>
  obtain ⟨hwv, hb1⟩ := hcut
  obtain ⟨wv, hwve⟩ : ∃ wv, wv = u4 := ⟨_, rfl⟩
  subst hwve
  obtain ⟨w1, hw1⟩ : ∃ w1, w1 = wc := ⟨_, rfl⟩
  subst hw1
  -- colours: what is new is of colour 14
  obtain ⟨c1, hc1⟩ : ∃ c1 : Nat → Nat, c1 = fun k => if k < w.heap.size then col k else 14 := ⟨_, rfl⟩
  have c1o : ∀ k, k < w.heap.size → c1 k = col k := fun k hk => by rw [hc1]; exact if_pos hk
  have c1n : ∀ k, w.heap.size ≤ k → c1 k = 14 := fun k hk => by rw [hc1]; exact if_neg (by omega)
  have hl1 : w1.ownsRow 0 9 1 l L.length (textV L) := owns_below hl hb1
  have hw1o : w1.ownsRow 0 9 1 wv L.length (textV L) := by rw [← HN.out]; exact owns_low hwv (Nat.zero_le _)
  have hlc1 : Col c1 15 l := fun k hk => by rw [c1o k (hl.lt k hk).2]; exact hlc k hk
  have hwc1 : Col c1 14 wv := fun k hk => c1n k (hwv.lt k hk).1
  have h1 : ListsAt w1 f c1 (N + 1) s := (h.keep (fun k hk _ => hb1.block k hk) (fun i _ _ => rfl) (fun k hk _ => c1o k hk)).mono (by omega)
  have hrow1 : w1.rowIs wb 39 14 f := hrow.of_block (hb1.block wb hwl)
  have hwb1 : c1 wb = 0 := by rw [c1o wb hwl]; exact hwb
  have htb := h.tb
  have hcb := h.cb
  have hcame := h.came
  clear hwv hl hl' hlc h hrow hc1
  have q2 : w1.cell? ⟨wb, 2, none⟩ = some (f 2) := hrow1.cell (i := 2) (by omega)
  have q3 : w1.cell? ⟨wb, 3, none⟩ = some (f 3) := hrow1.cell (i := 3) (by omega)
  have hsm := fun W (hb : Below w1.heap.size w1 W) => sameTexts_below (f 2) (f 3) s.kL W h1.kb (owns_below h1.kt hb) (owns_below h1.wt hb)
  obtain ⟨v2, hv2⟩ : ∃ v, v = f 2 := ⟨_, rfl⟩
  obtain ⟨v3, hv3⟩ : ∃ v, v = f 3 := ⟨_, rfl⟩
  rw [← hv2] at q2 hsm
  rw [← hv3] at q3 hsm
  have HV2 := hide hv2
  have HV3 := hide hv3
  have H1 := hide h1
  have HR1 := hide hrow1
  have HC := hide (And.intro c1o (And.intro c1n (And.intro hlc1 (And.intro hwc1 hwb1))))
  have HO := hide (And.intro hl1 hw1o)
  have HB1 := hide hb1
  have HCM := hide hcame
  have hw1l := hrow1.lt
  clear hv2 hv3 h1 hrow1 c1o c1n hlc1 hwc1 hwb1 hl1 hw1o hcame hb1
  go_upto_region 2 with fail
  go_cut [5] (fun s5 wd => s5 = .bool true ∧ Below w1.heap.size w1 wd)
  case first =>
    have hbd : Below w1.heap.size w1 w1.drew := ⟨rfl, rfl, rfl, Nat.le_refl _, fun _ _ => rfl⟩
    go_region_held3 (fun w' => w'.cell? ⟨wb, 2, none⟩ = some v2 ∧ w'.cell? ⟨wb, 3, none⟩ = some v3)
      (first | (exact ⟨q2, q3⟩) | (exact ⟨r2, r3⟩) | go_keep)
      (first
        | (go_at_call 18; refine (hsm _ hbd).mono ?_; rintro e w2 ⟨rfl, hb2⟩; have r2 := (hb2.cell (p := ⟨wb, 2, none⟩) hw1l).trans q2; have r3 := (hb2.cell (p := ⟨wb, 3, none⟩) hw1l).trans q3))
    all_goals
      go_wp2_with fail
      go_meet
      case rel => exact ⟨rfl, ⟨hb2.os, hb2.tape, hb2.output, hb2.size, hb2.block⟩⟩
  case rest =>
  obtain ⟨rfl, hb2⟩ := hcut
  obtain ⟨w2, hw2⟩ : ∃ w2, w2 = wc := ⟨_, rfl⟩
  subst hw2
  clear hsm q2 q3
  have hrow2 : w2.rowIs wb 39 14 f := HR1.out.of_block (hb2.block wb hw1l)
  have h2 : ListsAt w2 f c1 (N + 1) s := H1.out.keep (fun k hk _ => hb2.block k hk) (fun i _ _ => rfl) (fun _ _ _ => rfl)
  have hl2 := owns_below HO.out.1 hb2
  have hv2o := owns_below HO.out.2 hb2
  have q2 : w2.cell? ⟨wb, 2, none⟩ = some v2 := by rw [HV2.out]; exact hrow2.cell (i := 2) (by omega)
  have hmk := markTexts_any wb f s.tv s.gv (f 2) s.kL.length s.kL w2 hrow2 h2.t h2.g (fun k hk x => by have := h2.c9 k hk; have := h2.c10 k x; omega) h2.kt rfl h2.kb (by omega) (by have := h2.gl; omega)
  rw [← HV2.out] at hmk
  have Hh2 := hide (And.intro h2 (And.intro hl2 hv2o))
  have hw12 := hb2.size
  clear hrow2 h2 hl2 hv2o HO H1 HR1
  go_wp2_with fail
  refine hmk.mono ?_
  rintro e w3 ⟨⟨u, rfl⟩, v9, v10, g1, g2, g3, hmt⟩
  clear hmk q2
  obtain ⟨h2, hl2, hwo2⟩ := Hh2.out
  obtain ⟨c1o, c1n, hlc1, hwc1, hwb1⟩ := HC.out
  rw [HV2.out] at hmt
  -- the lists behind the first marking, the kept ones let go
  obtain ⟨fd, hfd⟩ : ∃ fd : Nat → Value, fd = fun i => if i = 2 then nilV else if i = 3 then nilV else f i := ⟨_, rfl⟩
  have hd := h2.dropT (f' := fd) (by rw [hfd]; rfl) (by rw [hfd]; rfl) (fun i n2 n3 _ => by rw [hfd]; show (if i = 2 then nilV else if i = 3 then nilV else f i) = f i; rw [if_neg n2, if_neg n3])
  obtain ⟨f3, hf3⟩ : ∃ f3 : Nat → Value, f3 = fun i => if i = 10 then v10 else if i = 9 then v9 else fd i := ⟨_, rfl⟩
  have hwbr : recol 9 13 c1 wb = 0 := by rw [recol_ne (by rw [hwb1]; omega)]; exact hwb1
  have h3 := hd.markT (f' := f3) h2.kt h2.kb (h2.c2.recol_same) hwbr hmt (by rw [hfd]; rfl) (by rw [hfd]; rfl) (by rw [hf3]; rfl) (by rw [hf3]; rfl) (fun i n9 n10 _ => by rw [hf3]; show (if i = 10 then v10 else if i = 9 then v9 else fd i) = fd i; rw [if_neg n10, if_neg n9]) (by show s.tv.length + 1 ≤ N + 1; omega)
  obtain ⟨c3, hc3⟩ : ∃ c3, c3 = colT w2 (recol 9 13 c1) v9 v10 := ⟨_, rfl⟩
  rw [← hc3] at h3
  have hfar3 : ∀ k, k < w2.heap.size → c1 k = 15 ∨ c1 k = 14 → w3.heap[k]? = w2.heap[k]? := fun k hk hcc => hmt.chg.block k hk (fun x => by
    rcases x with rfl | x | x | x
    · omega
    · have := h2.c9 k x; omega
    · have := h2.c10 k x; omega
    · have := h2.c2 k x; omega)
  have hl3 := owns_of_block (w' := w3) hl2 (fun k hk => hfar3 k (hl2.lt k hk).2 (Or.inl (hlc1 k hk)))
  have hwo3 := owns_of_block (w' := w3) hwo2 (fun k hk => hfar3 k (hwo2.lt k hk).2 (Or.inr (hwc1 k hk)))
  have c3o : ∀ k, k < w2.heap.size → c1 k ≠ 9 → c1 k ≠ 13 → c3 k = c1 k := fun k hk n9 n13 => by
    rw [hc3]
    unfold colT
    rw [if_pos hk, recol_ne (by rw [recol_ne n9]; exact n13), recol_ne n9]
  have hlc3 : Col c3 15 l := fun k hk => by rw [c3o k (hl2.lt k hk).2 (by rw [hlc1 k hk]; omega) (by rw [hlc1 k hk]; omega)]; exact hlc1 k hk
  have hwc3 : Col c3 14 wv := fun k hk => by rw [c3o k (hwo2.lt k hk).2 (by rw [hwc1 k hk]; omega) (by rw [hwc1 k hk]; omega)]; exact hwc1 k hk
  have hwb3 : c3 wb = 0 := by rw [c3o wb (Nat.lt_of_lt_of_le hw1l hw12) (by omega) (by omega)]; exact hwb1
  have hrow3 := hmt.row
  have hchg3 : Chg (fun k => k = wb ∨ 4 ≤ col k) w w3 := by
    refine ((Chg.of_below HB1.out _).trans (Chg.of_below hb2 _) (fun _ _ x => x)).trans hmt.chg (fun k hk x => ?_)
    rcases x with x | x | x | x
    · exact Or.inl x
    · right; have := h2.c9 k x; rw [c1o k hk] at this; omega
    · right; have := h2.c10 k x; rw [c1o k hk] at this; omega
    · right; have := h2.c2 k x; rw [c1o k hk] at this; omega
  have hc3low : ∀ k, k < w.heap.size → col k ≤ 3 → c3 k = col k := fun k hk hle => by
    rw [c3o k (by have := HB1.out.size; omega) (by rw [c1o k hk]; omega) (by rw [c1o k hk]; omega)]; exact c1o k hk
  have hw3l := hrow3.lt
  have hf3v : ∀ i, i < 14 → i ≠ 2 → i ≠ 3 → f3 i = (if i = 10 then v10 else if i = 9 then v9 else f i) := fun i _ n2 n3 => by
    rw [hf3, hfd]
    show (if i = 10 then v10 else if i = 9 then v9 else if i = 2 then nilV else if i = 3 then nilV else f i) = _
    rw [if_neg n2, if_neg n3]
  have hf3_2 : f3 2 = nilV := by rw [hf3, hfd]; rfl
  have hf3_3 : f3 3 = nilV := by rw [hf3, hfd]; rfl
  have hf3_0 : f3 0 = f 0 := by rw [hf3, hfd]; rfl
  have hf3_1 : f3 1 = .bool false := h3.bad
  have HH3 := hide (And.intro h3 (And.intro hl3 hwo3))
  have HC3 := hide (And.intro hlc3 (And.intro hwc3 (And.intro hwb3 (And.intro hchg3 hc3low))))
  have HF3 := hide (And.intro hf3v (And.intro hf3_2 (And.intro hf3_3 (And.intro hf3_0 hf3_1))))
  have hsm2 := sameTexts_below l wv L w3 hL hl3 hwo3
  rw [HLE.out] at hsm2
  have HROW3 := hide hrow3
  clear hmt h2 hl2 hwo2 hd h3 hl3 hwo3 hfar3 c3o hlc3 hwc3 hwb3 hchg3 hc3low hf3v hf3_2 hf3_3 hf3_0 hf3_1 c1o c1n hlc1 hwc1 hwb1 hwbr hfd hf3 hc3 hrow3 HC Hh2 hb2
  go_wp2_with fail
  refine hsm2.mono ?_
  rintro e w4 ⟨rfl, hb4⟩
  clear hsm2
  obtain ⟨h3, hl3, hwo3⟩ := HH3.out
  obtain ⟨hf3v, hf3_2, hf3_3, hf3_0, hf3_1⟩ := HF3.out
  obtain ⟨hlc3, hwc3, hwb3, hchg3, hc3low⟩ := HC3.out
  have hrow4 := HROW3.out.of_block (hb4.block wb hw3l)
  have hw4l := hrow4.lt
  have p0 : w4.cell? ⟨wb, 0, none⟩ = some (.int .i64 (s.came : Int)) := by rw [← HCM.out]; exact hrow4.cell (i := 0) (by omega)
  have p1 : w4.cell? ⟨wb, 1, none⟩ = some (.bool false) := by
    have := hrow4.cell (i := 1) (by omega)
    rw [← hf3v 1 (by omega) (by omega) (by omega), hf3_1] at this
    exact this
  have p2 : w4.cell? ⟨wb, 2, none⟩ = some (f 2) := hrow4.cell (i := 2) (by omega)
  have p3 : w4.cell? ⟨wb, 3, none⟩ = some (f 3) := hrow4.cell (i := 3) (by omega)
  have z0 := hrow4.frozen 0
  have z1 := hrow4.frozen 1
  have z2 := hrow4.frozen 2
  have z3 := hrow4.frozen 3
  have hrow5 := (((hrow4.set 1 (.bool false)).set 2 nilV).set 3 nilV).set 0 (.int .i64 ((s.came : Int) + 1))
  have hfar5 : ∀ k, k ≠ wb → ((((w4.setCell ⟨wb, 1, none⟩ (.bool false)).setCell ⟨wb, 2, none⟩ nilV).setCell ⟨wb, 3, none⟩ nilV).setCell ⟨wb, 0, none⟩ (.int .i64 ((s.came : Int) + 1))).heap[k]? = w4.heap[k]? := fun k hk => by
    rw [heap_setCell_other _ _ _ _ hk, heap_setCell_other _ _ _ _ hk, heap_setCell_other _ _ _ _ hk, heap_setCell_other _ _ _ _ hk]
  have hchg5 : Chg (fun k => k = wb ∨ 4 ≤ col k) w ((((w4.setCell ⟨wb, 1, none⟩ (.bool false)).setCell ⟨wb, 2, none⟩ nilV).setCell ⟨wb, 3, none⟩ nilV).setCell ⟨wb, 0, none⟩ (.int .i64 ((s.came : Int) + 1))) := ((((hchg3.trans (Chg.of_below hb4 (fun _ => False)) (fun _ _ x => x.elim)).setCell (a := ⟨wb, 1, none⟩) (Or.inr (Or.inl rfl)) _).setCell (a := ⟨wb, 2, none⟩) (Or.inr (Or.inl rfl)) _).setCell (a := ⟨wb, 3, none⟩) (Or.inr (Or.inl rfl)) _).setCell (a := ⟨wb, 0, none⟩) (Or.inr (Or.inl rfl)) _
  obtain ⟨f5, hf5⟩ : ∃ f5 : Nat → Value, f5 = fun i => if i = 0 then .int .i64 ((s.came + 1 : Nat) : Int) else f3 i := ⟨_, rfl⟩
  have hrow5' : ((((w4.setCell ⟨wb, 1, none⟩ (.bool false)).setCell ⟨wb, 2, none⟩ nilV).setCell ⟨wb, 3, none⟩ nilV).setCell ⟨wb, 0, none⟩ (.int .i64 ((s.came : Int) + 1))).rowIs wb 39 14 f5 := hrow5.congr (fun i hi => by
    rw [hf5]
    show (if i = 0 then Value.int .i64 ((s.came : Int) + 1) else if i = 3 then nilV else if i = 2 then nilV else if i = 1 then Value.bool false else if i = 10 then v10 else if i = 9 then v9 else f i) = (if i = 0 then Value.int .i64 ((s.came + 1 : Nat) : Int) else f3 i)
    by_cases e0 : i = 0
    · rw [if_pos e0, if_pos e0]; rfl
    · rw [if_neg e0, if_neg e0]
      by_cases e3 : i = 3
      · rw [if_pos e3, e3, hf3_3]
      · rw [if_neg e3]
        by_cases e2 : i = 2
        · rw [if_pos e2, e2, hf3_2]
        · rw [if_neg e2]
          by_cases e1 : i = 1
          · rw [if_pos e1, e1, hf3_1]
          · rw [if_neg e1, hf3v i hi e2 e3])
  have h4 : ListsAt w4 f3 c3 (N + 1) _ := h3.keep (fun k hk _ => hb4.block k hk) (fun i _ _ => rfl) (fun _ _ _ => rfl)
  have h5 := (h4.keep (w' := (((w4.setCell ⟨wb, 1, none⟩ (.bool false)).setCell ⟨wb, 2, none⟩ nilV).setCell ⟨wb, 3, none⟩ nilV).setCell ⟨wb, 0, none⟩ (.int .i64 ((s.came : Int) + 1))) (f' := f3) (col' := c3) (fun k _ h4c => hfar5 k (fun e => by rw [e, hwb3] at h4c; omega)) (fun i _ _ => rfl) (fun _ _ _ => rfl)).count (f' := f5) (by rw [hf5]; rfl) (fun i n0 _ => by rw [hf5]; show (if i = 0 then _ else f3 i) = f3 i; rw [if_neg n0])
  have hl5 := owns_of_block (w' := (((w4.setCell ⟨wb, 1, none⟩ (.bool false)).setCell ⟨wb, 2, none⟩ nilV).setCell ⟨wb, 3, none⟩ nilV).setCell ⟨wb, 0, none⟩ (.int .i64 ((s.came : Int) + 1))) (owns_below hl3 hb4) (fun k hk => hfar5 k (fun e => by have := hlc3 k hk; rw [e, hwb3] at this; omega))
  have hwo5 := owns_of_block (w' := (((w4.setCell ⟨wb, 1, none⟩ (.bool false)).setCell ⟨wb, 2, none⟩ nilV).setCell ⟨wb, 3, none⟩ nilV).setCell ⟨wb, 0, none⟩ (.int .i64 ((s.came : Int) + 1))) (owns_below hwo3 hb4) (fun k hk => hfar5 k (fun e => by have := hwc3 k hk; rw [e, hwb3] at this; omega))
  have hf5v : ∀ i, 6 ≤ i → i ≤ 8 → f5 i = f i := fun i h6 h8 => by
    rw [hf5]
    show (if i = 0 then _ else f3 i) = f i
    rw [if_neg (by omega), hf3v i (by omega) (by omega) (by omega), if_neg (by omega), if_neg (by omega)]
  have cb1 : (s.came : Int) ≤ 2900000 := by omega
  have HALL := hide (And.intro hrow5' (And.intro hchg5 (And.intro h5 (And.intro hl5 (And.intro hwo5 hf5v)))))
  have HCC := hide (And.intro hlc3 (And.intro hwc3 (And.intro hwb3 hc3low)))
  clear hrow4 hrow5 hrow5' hfar5 hchg5 h4 h5 hl5 hwo5 hf5v hf5 h3 hl3 hwo3 hf3v hf3_2 hf3_3 hf3_0 hf3_1 hlc3 hwc3 hwb3 hchg3 hc3low hb4 HH3 HF3 HC3 HROW3
  go_upto_region 9 with fail
  generalize (((w4.setCell ⟨wb, 1, none⟩ (.bool false)).setCell ⟨wb, 2, none⟩ nilV).setCell ⟨wb, 3, none⟩ nilV).setCell ⟨wb, 0, none⟩ (.int .i64 ((s.came : Int) + 1)) = w5 at *
  obtain ⟨hrow5, hchg5, h5, hl5, hwo5, hf5v⟩ := HALL.out
  obtain ⟨hlc3, hwc3, hwb3, hc3low⟩ := HCC.out
  have q0 : w5.cell? ⟨wb, 0, none⟩ = some (.int .i64 ((s.came : Int) + 1)) := by have := hrow5.cell (i := 0) (by omega); rw [h5.came] at this; exact this
  have hw5l := hrow5.lt
  clear p0 p1 p2 p3 z0 z1 z2 z3
  have hww5 := hchg5.size
  by_cases hev : (s.came + 1) % 2 = 0
  · have hevb : (((s.came : Int) + 1) % 2 == 0) = true := by rw [beq_iff_eq]; omega
    have h5r := h5.recolour (a := 15) (b := 13) (by omega)
    have hmk := markTexts_any wb f5 _ _ l L.length L w5 hrow5 h5.t h5.g (fun k hk x => by have := h5.c9 k hk; have := h5.c10 k x; omega) hl5 rfl hL (by have := h5.tb; omega) (by have := h5.gl; have := h5.tb; omega)
    have HX := hide (And.intro h5r (And.intro hl5 (And.intro hlc3 (And.intro hwb3 (And.intro hchg5 (And.intro hf5v (And.intro hc3low h5)))))))
    rw [HLE.out] at hmk
    clear h5r h5 hl5 hwo5 hlc3 hwc3 hwb3 hchg5 hf5v hc3low hrow5 HALL HCC hev
    go_wp2_with fail
    refine hmk.mono ?_
    rintro e w6 ⟨⟨u', rfl⟩, v9', v10', g1', g2', g3', hmt⟩
    rw [← HLE.out] at hmt
    have hend : TookL w w6 wb f col N := by
      obtain ⟨h5r, hl5, hlc3, hwb3, hchg5, hf5v, hc3low, h5⟩ := HX.out
      have hwbr : recol 15 13 c3 wb = 0 := by rw [recol_ne (by rw [hwb3]; omega)]; exact hwb3
      obtain ⟨f6, hf6⟩ : ∃ f6 : Nat → Value, f6 = fun i => if i = 10 then v10' else if i = 9 then v9' else f5 i := ⟨_, rfl⟩
      have h6 := h5r.markT (f' := f6) hl5 hL (hlc3.recol_same) hwbr hmt rfl rfl (by rw [hf6]; rfl) (by rw [hf6]; rfl) (fun i n9 n10 _ => by rw [hf6]; show (if i = 10 then v10' else if i = 9 then v9' else f5 i) = f5 i; rw [if_neg n10, if_neg n9]) (by show (s.tv ++ [f 2]).length + 1 ≤ N + 2; simp; omega)
      refine ⟨⟨f6, _, _, by rw [hf6]; exact hmt.row, h6, fun i h6' h8 => ?_, fun k hk hle => ?_⟩, hchg5.trans hmt.chg (fun k hk x => ?_)⟩
      · rw [hf6]
        show (if i = 10 then v10' else if i = 9 then v9' else f5 i) = f i
        rw [if_neg (by omega), if_neg (by omega)]; exact hf5v i h6' h8
      · unfold colT
        rw [if_pos (by omega), recol_ne (by rw [recol_ne (by rw [hc3low k hk hle]; omega), hc3low k hk hle]; omega), recol_ne (by rw [hc3low k hk hle]; omega)]
        exact hc3low k hk hle
      · rcases x with x | x | x | x
        · exact Or.inl x
        · right
          have h1 := h5.c9 k x
          by_cases hk3 : col k ≤ 3
          · have := hc3low k hk hk3; omega
          · omega
        · right
          have h1 := h5.c10 k x
          by_cases hk3 : col k ≤ 3
          · have := hc3low k hk hk3; omega
          · omega
        · right
          have h1 := hlc3 k x
          by_cases hk3 : col k ≤ 3
          · have := hc3low k hk hk3; omega
          · omega
    clear hmt HX hmk q0
    go_wp2_with fail
    go_end0
    exact ⟨⟨_, rfl⟩, hend⟩
  · have hevb : (((s.came : Int) + 1) % 2 == 0) = false := by rw [beq_eq_false_iff_ne]; omega
    have q2 : w5.cell? ⟨wb, 2, none⟩ = some (f5 2) := hrow5.cell (i := 2) (by omega)
    have q3 : w5.cell? ⟨wb, 3, none⟩ = some (f5 3) := hrow5.cell (i := 3) (by omega)
    have z2 := hrow5.frozen 2
    have z3 := hrow5.frozen 3
    have hend : TookL w ((w5.setCell ⟨wb, 2, none⟩ l).setCell ⟨wb, 3, none⟩ wv) wb f col N := by
      have hfar : ∀ k, k ≠ wb → ((w5.setCell ⟨wb, 2, none⟩ l).setCell ⟨wb, 3, none⟩ wv).heap[k]? = w5.heap[k]? := fun k hk => by
        rw [heap_setCell_other _ _ _ _ hk, heap_setCell_other _ _ _ _ hk]
      have hrow6 := (hrow5.set 2 l).set 3 wv
      have hchg6 := (hchg5.setCell (a := ⟨wb, 2, none⟩) (Or.inr (Or.inl rfl)) l).setCell (a := ⟨wb, 3, none⟩) (Or.inr (Or.inl rfl)) wv
      have h6 := h5.keep (w' := (w5.setCell ⟨wb, 2, none⟩ l).setCell ⟨wb, 3, none⟩ wv) (f' := f5) (col' := c3) (fun k _ h4c => hfar k (fun e => by rw [e, hwb3] at h4c; omega)) (fun i _ _ => rfl) (fun _ _ _ => rfl)
      have hl6 := owns_of_block (w' := (w5.setCell ⟨wb, 2, none⟩ l).setCell ⟨wb, 3, none⟩ wv) hl5 (fun k hk => hfar k (fun e => by have := hlc3 k hk; rw [e, hwb3] at this; omega))
      have hwo6 := owns_of_block (w' := (w5.setCell ⟨wb, 2, none⟩ l).setCell ⟨wb, 3, none⟩ wv) hwo5 (fun k hk => hfar k (fun e => by have := hwc3 k hk; rw [e, hwb3] at this; omega))
      obtain ⟨f6, hf6⟩ : ∃ f6 : Nat → Value, f6 = fun i => if i = 3 then wv else if i = 2 then l else f5 i := ⟨_, rfl⟩
      have h7 := h6.keepT (f' := f6) (L := L) (by rw [hf6]; exact hl6) (by rw [hf6]; exact hwo6) (by rw [hf6]; exact hlc3) (by rw [hf6]; exact hwc3) hL (fun i n2 n3 _ => by rw [hf6]; show (if i = 3 then wv else if i = 2 then l else f5 i) = f5 i; rw [if_neg n3, if_neg n2])
      refine ⟨⟨f6, _, _, by rw [hf6]; exact hrow6, h7, fun i h6' h8 => ?_, fun k hk hle => ?_⟩, hchg6⟩
      · rw [hf6]
        show (if i = 3 then wv else if i = 2 then l else f5 i) = f i
        rw [if_neg (by omega), if_neg (by omega)]; exact hf5v i h6' h8
      · rw [recol_ne (by rw [recol_ne (by rw [hc3low k hk hle]; omega), hc3low k hk hle]; omega), recol_ne (by rw [hc3low k hk hle]; omega)]
        exact hc3low k hk hle
    rw [HLE.out] at hend
    obtain ⟨ax, cx, hwx⟩ := owns_shape hwo5
    subst hwx
    clear h5 hl5 hwo5 hlc3 hwc3 hwb3 hchg5 hf5v hc3low hrow5 HALL HCC hev
    go_wp2_with fail
    go_end0
    exact ⟨⟨_, rfl⟩, hend⟩

end Go.Proofs.YtnjaofkieajnlaaGreat

/- The statement's own takeRows. -/
namespace Go.Proofs.YtnjaofkieajnlaaGreat
open Go.RowKit

set_option maxRecDepth 100000 in
set_option maxHeartbeats 16000000 in
theorem takeRows_any (wb : Nat) (f : Nat → Value) (col : Nat → Nat) (N : Nat) (s : LS) (l : Value) (M : Nat) (rv : Nat → Value) (L : Nat → List Nat) (w : World) (hrow : w.rowIs wb 39 14 f) (h : ListsAt w f col N s) (hwb : col wb = 0) (hl : RowsOwn w l M rv L) (hM : M ≤ 20) (hL : ∀ i, i < M → 1 ≤ (L i).length ∧ (L i).length ≤ 1000) (hlc : ∀ k, fpRows l M rv k → col k = 15) (hN : N ≤ 2900000) :
    Calls Tryz.prog 45 #[.pointer (some ⟨wb, 0, none⟩), l] w fun e w' => (∃ u, e = .returned u) ∧ TookL w w' wb f col N := by
  have hwl := hrow.lt
  obtain ⟨al, cl, hle⟩ := owns_shape hl.spine
  have HLE := hide hle
  have HL := hide hL
  have hL' : ∀ i, i < M → (L i).length ≤ 1000 := fun i hi => (hL i hi).2
  have HL' := hide hL'
  have hcp := copied_any l M rv L w hM hL hl
  rw [hle] at hcp
  clear hle hL hL'
  have H0 := hide (And.intro hrow (And.intro h (And.intro hwb (And.intro hl hlc))))
  clear hrow h hwb hl hlc
  go_enter Tryz.func45, Tryz.ntmps45
  rw [HLE.out]
  go_wp2_with fail
  refine hcp.mono ?_
  rintro e w1 ⟨wv, rfl, rv2, hwv, hwf, hb1⟩
  clear hcp
  obtain ⟨hrow, h, hwb, hl, hlc⟩ := H0.out
  -- colours: what is new is of colour 14
  obtain ⟨c1, hc1⟩ : ∃ c1 : Nat → Nat, c1 = fun k => if k < w.heap.size then col k else 14 := ⟨_, rfl⟩
  have c1o : ∀ k, k < w.heap.size → c1 k = col k := fun k hk => by rw [hc1]; exact if_pos hk
  have c1n : ∀ k, w.heap.size ≤ k → c1 k = 14 := fun k hk => by rw [hc1]; exact if_neg (by omega)
  have hl1 : RowsOwn w1 l M rv L := hl.on hb1
  have hw1o : RowsOwn w1 wv M rv2 L := hwv
  have hlc1 : ∀ k, fpRows l M rv k → c1 k = 15 := fun k hk => by rw [c1o k (hl.lt hk)]; exact hlc k hk
  have hwc1 : ∀ k, fpRows wv M rv2 k → c1 k = 14 := fun k hk => c1n k (hwf k hk)
  have h1 : ListsAt w1 f c1 (N + 1) s := (h.keep (fun k hk _ => hb1.block k hk) (fun i _ _ => rfl) (fun k hk _ => c1o k hk)).mono (by omega)
  have hrow1 : w1.rowIs wb 39 14 f := hrow.of_block (hb1.block wb hwl)
  have hwb1 : c1 wb = 0 := by rw [c1o wb hwl]; exact hwb
  have htb := h.ib
  have hlsb := h.lb
  have hcb := h.cb
  have hcame := h.came
  clear hwv hl hlc h hrow hc1 H0 hwf
  have q2 : w1.cell? ⟨wb, 4, none⟩ = some (f 4) := hrow1.cell (i := 4) (by omega)
  have q3 : w1.cell? ⟨wb, 5, none⟩ = some (f 5) := hrow1.cell (i := 5) (by omega)
  have hsm := fun W (hb : Below w1.heap.size w1 W) => sameRows_own (f 4) (f 5) s.M s.rv s.rv2 s.RL W h1.Mb (fun i hi => (h1.Lb i hi).2) (h1.kr.on hb) (h1.wr.on hb)
  obtain ⟨v2, hv2⟩ : ∃ v, v = f 4 := ⟨_, rfl⟩
  obtain ⟨v3, hv3⟩ : ∃ v, v = f 5 := ⟨_, rfl⟩
  rw [← hv2] at q2 hsm
  rw [← hv3] at q3 hsm
  have HV2 := hide hv2
  have HV3 := hide hv3
  have H1 := hide h1
  have HR1 := hide hrow1
  have HC := hide (And.intro c1o (And.intro c1n (And.intro hlc1 (And.intro hwc1 hwb1))))
  have HO := hide (And.intro hl1 hw1o)
  have HB1 := hide hb1
  have HCM := hide hcame
  have hw1l := hrow1.lt
  clear hv2 hv3 h1 hrow1 c1o c1n hlc1 hwc1 hwb1 hl1 hw1o hcame hb1
  go_upto_region 1 with fail
  go_cut [5] (fun s5 wd => s5 = .bool true ∧ Below w1.heap.size w1 wd)
  case first =>
    have hbd : Below w1.heap.size w1 w1.drew := ⟨rfl, rfl, rfl, Nat.le_refl _, fun _ _ => rfl⟩
    go_region_held3 (fun w' => w'.cell? ⟨wb, 4, none⟩ = some v2 ∧ w'.cell? ⟨wb, 5, none⟩ = some v3)
      (first | (exact ⟨q2, q3⟩) | (exact ⟨r2, r3⟩) | go_keep)
      (first
        | (go_at_call 19; refine (hsm _ hbd).mono ?_; rintro e w2 ⟨rfl, hb2⟩; have r2 := (hb2.cell (p := ⟨wb, 4, none⟩) hw1l).trans q2; have r3 := (hb2.cell (p := ⟨wb, 5, none⟩) hw1l).trans q3))
    all_goals
      go_wp2_with fail
      go_meet
      case rel => exact ⟨rfl, ⟨hb2.os, hb2.tape, hb2.output, hb2.size, hb2.block⟩⟩
  case rest =>
  obtain ⟨rfl, hb2⟩ := hcut
  obtain ⟨w2, hw2⟩ : ∃ w2, w2 = wc := ⟨_, rfl⟩
  subst hw2
  clear hsm q2 q3
  have hrow2 : w2.rowIs wb 39 14 f := HR1.out.of_block (hb2.block wb hw1l)
  have h2 : ListsAt w2 f c1 (N + 1) s := H1.out.keep (fun k hk _ => hb2.block k hk) (fun i _ _ => rfl) (fun _ _ _ => rfl)
  have hl2 := HO.out.1.on hb2
  have hv2o := HO.out.2.on hb2
  have q2 : w2.cell? ⟨wb, 4, none⟩ = some v2 := by rw [HV2.out]; exact hrow2.cell (i := 4) (by omega)
  have hmk := markRows_any wb f s.iv s.lv s.ls (f 4) s.M s.rv s.RL w2 hrow2 h2.i h2.l h2.ls (fun k hk x => by have := h2.c11 k hk; have := h2.c12 k x; omega) h2.kr (fun k hk x => by have := h2.c4 k (Or.inl hk); have := h2.c11 k x; omega) (fun k hk x => by have := h2.c4 k (Or.inl hk); have := h2.c12 k x; omega) h2.Mb h2.Lb (by omega) (by have := h2.ll; omega) (by omega)
  rw [← HV2.out] at hmk
  have Hh2 := hide (And.intro h2 (And.intro hl2 hv2o))
  have hw12 := hb2.size
  clear hrow2 h2 hl2 hv2o HO H1 HR1
  go_wp2_with fail
  refine hmk.mono ?_
  rintro e w3 ⟨⟨u, rfl⟩, v11, v12, v13, ivs, lvs, hmt⟩
  clear hmk q2
  obtain ⟨h2, hl2, hwo2⟩ := Hh2.out
  obtain ⟨c1o, c1n, hlc1, hwc1, hwb1⟩ := HC.out
  rw [HV2.out] at hmt
  -- the lists behind the first marking, the kept ones let go
  obtain ⟨fd, hfd⟩ : ∃ fd : Nat → Value, fd = fun i => if i = 4 then nilV else if i = 5 then nilV else f i := ⟨_, rfl⟩
  have hd := h2.dropR (f' := fd) (by rw [hfd]; rfl) (by rw [hfd]; rfl) (fun i n2 n3 _ => by rw [hfd]; show (if i = 4 then nilV else if i = 5 then nilV else f i) = f i; rw [if_neg n2, if_neg n3])
  obtain ⟨f3, hf3⟩ : ∃ f3 : Nat → Value, f3 = fun i => if i = 13 then v13 else if i = 12 then v12 else if i = 11 then v11 else fd i := ⟨_, rfl⟩
  have hwbr : recol 10 16 c1 wb = 0 := by rw [recol_ne (by rw [hwb1]; omega)]; exact hwb1
  have hMs := h2.Mb
  have h3 := hd.markR (f' := f3) h2.kr h2.Mb (fun k hk => recol_eq (h2.c4 k hk)) hwbr hmt (by rw [hfd]; rfl) (by rw [hfd]; rfl) (by rw [hfd]; rfl) (by rw [hf3]; rfl) (by rw [hf3]; rfl) (by rw [hf3]; rfl) (fun i n11 => by rw [hf3]; show (if i = 13 then v13 else if i = 12 then v12 else if i = 11 then v11 else fd i) = fd i; rw [if_neg (by omega), if_neg (by omega), if_neg (by omega)]) (by show s.iv.length + s.M ≤ 20 * (N + 1); omega) (by show s.ls.length + 1 ≤ N + 1; omega)
  obtain ⟨c3, hc3⟩ : ∃ c3, c3 = colR w2 (recol 10 16 c1) v11 v12 v13 := ⟨_, rfl⟩
  rw [← hc3] at h3
  have hfar3 : ∀ k, k < w2.heap.size → c1 k = 15 ∨ c1 k = 14 → w3.heap[k]? = w2.heap[k]? := fun k hk hcc => hmt.chg.block k hk (fun x => by
    rcases x with rfl | x | x | x | x
    · omega
    · have := h2.c11 k x; omega
    · have := h2.c12 k x; omega
    · have := h2.c13 k x; omega
    · have := h2.c4 k x; omega)
  have hl3 := hl2.blocks (w' := w3) (fun k hk => hfar3 k (hl2.lt hk) (Or.inl (hlc1 k hk)))
  have hwo3 := hwo2.blocks (w' := w3) (fun k hk => hfar3 k (hwo2.lt hk) (Or.inr (hwc1 k hk)))
  have c3o : ∀ k, k < w2.heap.size → c1 k ≠ 10 → c1 k ≠ 16 → c3 k = c1 k := fun k hk n9 n13 => by
    rw [hc3]
    unfold colR
    rw [if_pos hk, recol_ne (by rw [recol_ne n9]; exact n13), recol_ne n9]
  have hlc3 : ∀ k, fpRows l M rv k → c3 k = 15 := fun k hk => by rw [c3o k (hl2.lt hk) (by rw [hlc1 k hk]; omega) (by rw [hlc1 k hk]; omega)]; exact hlc1 k hk
  have hwc3 : ∀ k, fpRows wv M rv2 k → c3 k = 14 := fun k hk => by rw [c3o k (hwo2.lt hk) (by rw [hwc1 k hk]; omega) (by rw [hwc1 k hk]; omega)]; exact hwc1 k hk
  have hwb3 : c3 wb = 0 := by rw [c3o wb (Nat.lt_of_lt_of_le hw1l hw12) (by omega) (by omega)]; exact hwb1
  have hrow3 := hmt.row
  have hchg3 : Chg (fun k => k = wb ∨ 4 ≤ col k) w w3 := by
    refine ((Chg.of_below HB1.out _).trans (Chg.of_below hb2 _) (fun _ _ x => x)).trans hmt.chg (fun k hk x => ?_)
    rcases x with x | x | x | x | x
    · exact Or.inl x
    · right; have := h2.c11 k x; rw [c1o k hk] at this; omega
    · right; have := h2.c12 k x; rw [c1o k hk] at this; omega
    · right; have := h2.c13 k x; rw [c1o k hk] at this; omega
    · right; have := h2.c4 k x; rw [c1o k hk] at this; omega
  have hc3low : ∀ k, k < w.heap.size → col k ≤ 3 → c3 k = col k := fun k hk hle => by
    rw [c3o k (by have := HB1.out.size; omega) (by rw [c1o k hk]; omega) (by rw [c1o k hk]; omega)]; exact c1o k hk
  have hw3l := hrow3.lt
  have hf3v : ∀ i, i < 14 → i ≠ 4 → i ≠ 5 → f3 i = (if i = 13 then v13 else if i = 12 then v12 else if i = 11 then v11 else f i) := fun i _ n2 n3 => by
    rw [hf3, hfd]
    show (if i = 13 then v13 else if i = 12 then v12 else if i = 11 then v11 else if i = 4 then nilV else if i = 5 then nilV else f i) = _
    rw [if_neg n2, if_neg n3]
  have hf3_2 : f3 4 = nilV := by rw [hf3, hfd]; rfl
  have hf3_3 : f3 5 = nilV := by rw [hf3, hfd]; rfl
  have hf3_0 : f3 0 = f 0 := by rw [hf3, hfd]; rfl
  have hf3_1 : f3 1 = .bool false := h3.bad
  have HH3 := hide (And.intro h3 (And.intro hl3 hwo3))
  have HC3 := hide (And.intro hlc3 (And.intro hwc3 (And.intro hwb3 (And.intro hchg3 hc3low))))
  have HF3 := hide (And.intro hf3v (And.intro hf3_2 (And.intro hf3_3 (And.intro hf3_0 hf3_1))))
  have hsm2 := sameRows_own l wv M rv rv2 L w3 hM HL'.out hl3 hwo3
  rw [HLE.out] at hsm2
  have HROW3 := hide hrow3
  have HIB := hide (And.intro (show s.iv.length + s.M ≤ 20 * (N + 1) by omega) hmt.il)
  clear hmt h2 hl2 hwo2 hd h3 hl3 hwo3 hfar3 c3o hlc3 hwc3 hwb3 hchg3 hc3low hf3v hf3_2 hf3_3 hf3_0 hf3_1 c1o c1n hlc1 hwc1 hwb1 hwbr hfd hf3 hc3 hrow3 HC Hh2 hb2 hMs
  go_wp2_with fail
  refine hsm2.mono ?_
  rintro e w4 ⟨rfl, hb4⟩
  clear hsm2
  obtain ⟨h3, hl3, hwo3⟩ := HH3.out
  obtain ⟨hf3v, hf3_2, hf3_3, hf3_0, hf3_1⟩ := HF3.out
  obtain ⟨hlc3, hwc3, hwb3, hchg3, hc3low⟩ := HC3.out
  have hrow4 := HROW3.out.of_block (hb4.block wb hw3l)
  have hw4l := hrow4.lt
  have p0 : w4.cell? ⟨wb, 0, none⟩ = some (.int .i64 (s.came : Int)) := by rw [← HCM.out]; exact hrow4.cell (i := 0) (by omega)
  have p1 : w4.cell? ⟨wb, 1, none⟩ = some (.bool false) := by
    have := hrow4.cell (i := 1) (by omega)
    rw [← hf3v 1 (by omega) (by omega) (by omega), hf3_1] at this
    exact this
  have p2 : w4.cell? ⟨wb, 4, none⟩ = some (f 4) := hrow4.cell (i := 4) (by omega)
  have p3 : w4.cell? ⟨wb, 5, none⟩ = some (f 5) := hrow4.cell (i := 5) (by omega)
  have z0 := hrow4.frozen 0
  have z1 := hrow4.frozen 1
  have z2 := hrow4.frozen 4
  have z3 := hrow4.frozen 5
  have hrow5 := (((hrow4.set 1 (.bool false)).set 4 nilV).set 5 nilV).set 0 (.int .i64 ((s.came : Int) + 1))
  have hfar5 : ∀ k, k ≠ wb → ((((w4.setCell ⟨wb, 1, none⟩ (.bool false)).setCell ⟨wb, 4, none⟩ nilV).setCell ⟨wb, 5, none⟩ nilV).setCell ⟨wb, 0, none⟩ (.int .i64 ((s.came : Int) + 1))).heap[k]? = w4.heap[k]? := fun k hk => by
    rw [heap_setCell_other _ _ _ _ hk, heap_setCell_other _ _ _ _ hk, heap_setCell_other _ _ _ _ hk, heap_setCell_other _ _ _ _ hk]
  have hchg5 : Chg (fun k => k = wb ∨ 4 ≤ col k) w ((((w4.setCell ⟨wb, 1, none⟩ (.bool false)).setCell ⟨wb, 4, none⟩ nilV).setCell ⟨wb, 5, none⟩ nilV).setCell ⟨wb, 0, none⟩ (.int .i64 ((s.came : Int) + 1))) := ((((hchg3.trans (Chg.of_below hb4 (fun _ => False)) (fun _ _ x => x.elim)).setCell (a := ⟨wb, 1, none⟩) (Or.inr (Or.inl rfl)) _).setCell (a := ⟨wb, 4, none⟩) (Or.inr (Or.inl rfl)) _).setCell (a := ⟨wb, 5, none⟩) (Or.inr (Or.inl rfl)) _).setCell (a := ⟨wb, 0, none⟩) (Or.inr (Or.inl rfl)) _
  obtain ⟨f5, hf5⟩ : ∃ f5 : Nat → Value, f5 = fun i => if i = 0 then .int .i64 ((s.came + 1 : Nat) : Int) else f3 i := ⟨_, rfl⟩
  have hrow5' : ((((w4.setCell ⟨wb, 1, none⟩ (.bool false)).setCell ⟨wb, 4, none⟩ nilV).setCell ⟨wb, 5, none⟩ nilV).setCell ⟨wb, 0, none⟩ (.int .i64 ((s.came : Int) + 1))).rowIs wb 39 14 f5 := hrow5.congr (fun i hi => by
    rw [hf5]
    show (if i = 0 then Value.int .i64 ((s.came : Int) + 1) else if i = 5 then nilV else if i = 4 then nilV else if i = 1 then Value.bool false else if i = 13 then v13 else if i = 12 then v12 else if i = 11 then v11 else f i) = (if i = 0 then Value.int .i64 ((s.came + 1 : Nat) : Int) else f3 i)
    by_cases e0 : i = 0
    · rw [if_pos e0, if_pos e0]; rfl
    · rw [if_neg e0, if_neg e0]
      by_cases e3 : i = 5
      · rw [if_pos e3, e3, hf3_3]
      · rw [if_neg e3]
        by_cases e2 : i = 4
        · rw [if_pos e2, e2, hf3_2]
        · rw [if_neg e2]
          by_cases e1 : i = 1
          · rw [if_pos e1, e1, hf3_1]
          · rw [if_neg e1, hf3v i hi e2 e3])
  have h4 : ListsAt w4 f3 c3 (N + 1) _ := h3.keep (fun k hk _ => hb4.block k hk) (fun i _ _ => rfl) (fun _ _ _ => rfl)
  have h5 := (h4.keep (w' := (((w4.setCell ⟨wb, 1, none⟩ (.bool false)).setCell ⟨wb, 4, none⟩ nilV).setCell ⟨wb, 5, none⟩ nilV).setCell ⟨wb, 0, none⟩ (.int .i64 ((s.came : Int) + 1))) (f' := f3) (col' := c3) (fun k _ h4c => hfar5 k (fun e => by rw [e, hwb3] at h4c; omega)) (fun i _ _ => rfl) (fun _ _ _ => rfl)).count (f' := f5) (by rw [hf5]; rfl) (fun i n0 _ => by rw [hf5]; show (if i = 0 then _ else f3 i) = f3 i; rw [if_neg n0])
  have hl5 := RowsOwn.blocks (w' := (((w4.setCell ⟨wb, 1, none⟩ (.bool false)).setCell ⟨wb, 4, none⟩ nilV).setCell ⟨wb, 5, none⟩ nilV).setCell ⟨wb, 0, none⟩ (.int .i64 ((s.came : Int) + 1))) (hl3.on hb4) (fun k hk => hfar5 k (fun e => by have := hlc3 k hk; rw [e, hwb3] at this; omega))
  have hwo5 := RowsOwn.blocks (w' := (((w4.setCell ⟨wb, 1, none⟩ (.bool false)).setCell ⟨wb, 4, none⟩ nilV).setCell ⟨wb, 5, none⟩ nilV).setCell ⟨wb, 0, none⟩ (.int .i64 ((s.came : Int) + 1))) (hwo3.on hb4) (fun k hk => hfar5 k (fun e => by have := hwc3 k hk; rw [e, hwb3] at this; omega))
  have hf5v : ∀ i, 6 ≤ i → i ≤ 8 → f5 i = f i := fun i h6 h8 => by
    rw [hf5]
    show (if i = 0 then _ else f3 i) = f i
    rw [if_neg (by omega), hf3v i (by omega) (by omega) (by omega), if_neg (by omega), if_neg (by omega), if_neg (by omega)]
  have cb1 : (s.came : Int) ≤ 2900000 := by omega
  have HALL := hide (And.intro hrow5' (And.intro hchg5 (And.intro h5 (And.intro hl5 (And.intro hwo5 hf5v)))))
  have HCC := hide (And.intro hlc3 (And.intro hwc3 (And.intro hwb3 hc3low)))
  clear hrow4 hrow5 hrow5' hfar5 hchg5 h4 h5 hl5 hwo5 hf5v hf5 h3 hl3 hwo3 hf3v hf3_2 hf3_3 hf3_0 hf3_1 hlc3 hwc3 hwb3 hchg3 hc3low hb4 HH3 HF3 HC3 HROW3
  go_upto_region 8 with fail
  generalize (((w4.setCell ⟨wb, 1, none⟩ (.bool false)).setCell ⟨wb, 4, none⟩ nilV).setCell ⟨wb, 5, none⟩ nilV).setCell ⟨wb, 0, none⟩ (.int .i64 ((s.came : Int) + 1)) = w5 at *
  obtain ⟨hrow5, hchg5, h5, hl5, hwo5, hf5v⟩ := HALL.out
  obtain ⟨hlc3, hwc3, hwb3, hc3low⟩ := HCC.out
  have q0 : w5.cell? ⟨wb, 0, none⟩ = some (.int .i64 ((s.came : Int) + 1)) := by have := hrow5.cell (i := 0) (by omega); rw [h5.came] at this; exact this
  have hw5l := hrow5.lt
  clear p0 p1 p2 p3 z0 z1 z2 z3
  have hww5 := hchg5.size
  by_cases hev : (s.came + 1) % 2 = 0
  · have hevb : (((s.came : Int) + 1) % 2 == 0) = true := by rw [beq_iff_eq]; omega
    have h5r := h5.recolour (a := 15) (b := 16) (by omega)
    have hmk := markRows_any wb f5 _ _ _ l M rv L w5 hrow5 h5.i h5.l h5.ls (fun k hk x => by have := h5.c11 k hk; have := h5.c12 k x; omega) hl5 (fun k hk x => by have := hlc3 k (Or.inl hk); have := h5.c11 k x; omega) (fun k hk x => by have := hlc3 k (Or.inl hk); have := h5.c12 k x; omega) hM HL.out (by have := h5.ib; omega) (by have := h5.ll; have := h5.ib; omega) (by have := h5.lb; omega)
    have HX := hide (And.intro h5r (And.intro hl5 (And.intro hlc3 (And.intro hwb3 (And.intro hchg5 (And.intro hf5v (And.intro hc3low h5)))))))
    rw [HLE.out] at hmk
    clear h5r h5 hl5 hwo5 hlc3 hwc3 hwb3 hchg5 hf5v hc3low hrow5 HALL HCC hev
    go_wp2_with fail
    refine hmk.mono ?_
    rintro e w6 ⟨⟨u', rfl⟩, v11', v12', v13', ivs', lvs', hmt⟩
    rw [← HLE.out] at hmt
    have hend : TookL w w6 wb f col N := by
      obtain ⟨h5r, hl5, hlc3, hwb3, hchg5, hf5v, hc3low, h5⟩ := HX.out
      have hwbr : recol 15 16 c3 wb = 0 := by rw [recol_ne (by rw [hwb3]; omega)]; exact hwb3
      obtain ⟨f6, hf6⟩ : ∃ f6 : Nat → Value, f6 = fun i => if i = 13 then v13' else if i = 12 then v12' else if i = 11 then v11' else f5 i := ⟨_, rfl⟩
      have hib5 : s.iv.length + s.M ≤ 20 * (N + 1) := HIB.out.1
      have h6 := h5r.markR (f' := f6) hl5 hM (fun k hk => recol_eq (hlc3 k hk)) hwbr hmt rfl rfl rfl (by rw [hf6]; rfl) (by rw [hf6]; rfl) (by rw [hf6]; rfl) (fun i n11 => by rw [hf6]; show (if i = 13 then v13' else if i = 12 then v12' else if i = 11 then v11' else f5 i) = f5 i; rw [if_neg (by omega), if_neg (by omega), if_neg (by omega)]) (by show (s.iv ++ ivs).length + M ≤ 20 * (N + 2); rw [List.length_append, HIB.out.2]; omega) (by show (s.ls ++ [f 4]).length + 1 ≤ N + 2; simp; omega)
      refine ⟨⟨f6, _, _, by rw [hf6]; exact hmt.row, h6, fun i h6' h8 => ?_, fun k hk hle => ?_⟩, hchg5.trans hmt.chg (fun k hk x => ?_)⟩
      · rw [hf6]
        show (if i = 13 then v13' else if i = 12 then v12' else if i = 11 then v11' else f5 i) = f i
        rw [if_neg (by omega), if_neg (by omega), if_neg (by omega)]; exact hf5v i h6' h8
      · unfold colR
        rw [if_pos (by omega), recol_ne (by rw [recol_ne (by rw [hc3low k hk hle]; omega), hc3low k hk hle]; omega), recol_ne (by rw [hc3low k hk hle]; omega)]
        exact hc3low k hk hle
      · have hhi : c3 k = 6 ∨ c3 k = 7 ∨ c3 k = 8 ∨ c3 k = 15 → 4 ≤ col k := fun hc => by
          by_cases hk3 : col k ≤ 3
          · have := hc3low k hk hk3; omega
          · omega
        rcases x with x | x | x | x | x
        · exact Or.inl x
        · exact Or.inr (hhi (Or.inl (h5.c11 k x)))
        · exact Or.inr (hhi (Or.inr (Or.inl (h5.c12 k x))))
        · exact Or.inr (hhi (Or.inr (Or.inr (Or.inl (h5.c13 k x)))))
        · exact Or.inr (hhi (Or.inr (Or.inr (Or.inr (hlc3 k x)))))
    clear hmt HX hmk q0
    go_wp2_with fail
    go_end0
    exact ⟨⟨_, rfl⟩, hend⟩
  · have hevb : (((s.came : Int) + 1) % 2 == 0) = false := by rw [beq_eq_false_iff_ne]; omega
    have q2 : w5.cell? ⟨wb, 4, none⟩ = some (f5 4) := hrow5.cell (i := 4) (by omega)
    have q3 : w5.cell? ⟨wb, 5, none⟩ = some (f5 5) := hrow5.cell (i := 5) (by omega)
    have z2 := hrow5.frozen 4
    have z3 := hrow5.frozen 5
    have hend : TookL w ((w5.setCell ⟨wb, 4, none⟩ l).setCell ⟨wb, 5, none⟩ wv) wb f col N := by
      have hfar : ∀ k, k ≠ wb → ((w5.setCell ⟨wb, 4, none⟩ l).setCell ⟨wb, 5, none⟩ wv).heap[k]? = w5.heap[k]? := fun k hk => by
        rw [heap_setCell_other _ _ _ _ hk, heap_setCell_other _ _ _ _ hk]
      have hrow6 := (hrow5.set 4 l).set 5 wv
      have hchg6 := (hchg5.setCell (a := ⟨wb, 4, none⟩) (Or.inr (Or.inl rfl)) l).setCell (a := ⟨wb, 5, none⟩) (Or.inr (Or.inl rfl)) wv
      have h6 := h5.keep (w' := (w5.setCell ⟨wb, 4, none⟩ l).setCell ⟨wb, 5, none⟩ wv) (f' := f5) (col' := c3) (fun k _ h4c => hfar k (fun e => by rw [e, hwb3] at h4c; omega)) (fun i _ _ => rfl) (fun _ _ _ => rfl)
      have hl6 := RowsOwn.blocks (w' := (w5.setCell ⟨wb, 4, none⟩ l).setCell ⟨wb, 5, none⟩ wv) hl5 (fun k hk => hfar k (fun e => by have := hlc3 k hk; rw [e, hwb3] at this; omega))
      have hwo6 := RowsOwn.blocks (w' := (w5.setCell ⟨wb, 4, none⟩ l).setCell ⟨wb, 5, none⟩ wv) hwo5 (fun k hk => hfar k (fun e => by have := hwc3 k hk; rw [e, hwb3] at this; omega))
      obtain ⟨f6, hf6⟩ : ∃ f6 : Nat → Value, f6 = fun i => if i = 5 then wv else if i = 4 then l else f5 i := ⟨_, rfl⟩
      have h7 := h6.keepR (f' := f6) (M := M) (rv := rv) (rv2 := rv2) (L := L) (by rw [hf6]; exact hl6) (by rw [hf6]; exact hwo6) (by rw [hf6]; exact hlc3) (by rw [hf6]; exact hwc3) hM HL.out (fun i n2 n3 _ => by rw [hf6]; show (if i = 5 then wv else if i = 4 then l else f5 i) = f5 i; rw [if_neg n3, if_neg n2])
      refine ⟨⟨f6, _, _, by rw [hf6]; exact hrow6, h7, fun i h6' h8 => ?_, fun k hk hle => ?_⟩, hchg6⟩
      · rw [hf6]
        show (if i = 5 then wv else if i = 4 then l else f5 i) = f i
        rw [if_neg (by omega), if_neg (by omega)]; exact hf5v i h6' h8
      · rw [recol_ne (by rw [recol_ne (by rw [hc3low k hk hle]; omega), hc3low k hk hle]; omega), recol_ne (by rw [hc3low k hk hle]; omega)]
        exact hc3low k hk hle
    rw [HLE.out] at hend
    obtain ⟨ax, cx, hwx⟩ := owns_shape hwo5.spine
    subst hwx
    clear h5 hl5 hwo5 hlc3 hwc3 hwb3 hchg5 hf5v hc3low hrow5 HALL HCC hev
    go_wp2_with fail
    go_end0
    exact ⟨⟨_, rfl⟩, hend⟩

end Go.Proofs.YtnjaofkieajnlaaGreat
