/- The statement's own 'boxed': Put, Get and Need. -/
import Derived.Test.YtnjaofkieajnlaaGreatWorld1
import Derived.Test.YtnjaofkieajnlaaGreatKeep
import Derived.Test.YtnjaofkieajnlaaGreatWordKn
namespace Go.Proofs.YtnjaofkieajnlaaGreat
open Go.RowKit

theorem PairAt.parted {w : World} {b : PB} (h : PairAt w b) {k : Nat} (hk : fpR b.r b.av b.pv k) : k ≠ b.p := by
  rintro rfl
  obtain ⟨c, hc, _⟩ := h.box
  rcases hk with hk | hk | hk
  · have := h.rbox.box
    rw [← hk, hc] at this
    simp at this
  · exact owns_other h.rbox.oa hc (by decide) hk
  · exact owns_other h.rbox.op hc (by decide) hk

/-- A pair's cells in the list of pairs. -/
theorem BoxesAt.cells {w0 w : World} {wb : Nat} {bsv : Value} {bl : List PB} (h : BoxesAt w0 w wb bsv bl) {j : Nat} (hj : j < bl.length) : ∃ g cap, bsv = .slice (some ⟨g, 0, none⟩) bl.length cap ∧ g < w.heap.size ∧ w.cell? ⟨g, j * 2, none⟩ = some (.pointer (some ⟨(bl.getD j PB.none).p, 0, none⟩)) ∧ w.cell? ⟨g, j * 2 + 1, none⟩ = some (.pointer (some ⟨(bl.getD j PB.none).r, 0, none⟩)) := by
  rcases h.own.2 with ⟨_, hn⟩ | ⟨g, cap, cur, he, _, hg, hc, _, _, ht⟩
  · omega
  · refine ⟨g, cap, he, (Array.getElem?_eq_some_iff.1 hg).1, ?_⟩
    rw [cell_of_row _ _ _ _ _ _ hg, cell_of_row _ _ _ _ _ _ hg]
    obtain ⟨h1, h2⟩ := pairV_get bl j hj
    rw [← ht, List.getElem?_take, if_pos (by omega)] at h1
    rw [← ht, List.getElem?_take, if_pos (by omega)] at h2
    exact ⟨by simpa using h1, by simpa using h2⟩

set_option maxRecDepth 100000 in
set_option maxHeartbeats 8000000 in
theorem boxed_any (w0 : World) (wb : Nat) (bsv : Value) (bl : List PB) (k a b c K M O S : Int) (s : ByteArray) (lv : Value) (w : World) (hat : BoxesAt w0 w wb bsv bl) (ha1 : -9223372036854775808 ≤ a) (ha2 : a ≤ 9223372036854775807) (hk : k = 2 ∨ k = 3 ∨ k = 4) :
    Calls Tryz.prog 12 #[.pointer (some ⟨wb, 0, none⟩), .agg (opC k a b c K M O S s lv)] w fun e w' => e = .returned (.bool true) ∧ ∃ bl', BoxesAt w0 w' wb bsv bl' ∧ bl'.length = bl.length := by
  have hat1 := hat.on ((Below.refl _ _).alloc (Nat.le_refl _) (.cells (opC k a b c K M O S s lv) 29))
  have hop : (w.alloc (.cells (opC k a b c K M O S s lv) 29)).heap[w.heap.size]? = some (.cells (opC k a b c K M O S s lv) 29 (0, 0)) := heap_alloc_new w _
  have hcb : (w.alloc (.cells (opC k a b c K M O S s lv) 29)).cell? ⟨wb, 6, none⟩ = some bsv := by rw [cell_of_row _ _ _ _ _ _ hat1.world]; rfl
  have hcb0 : w.cell? ⟨wb, 6, none⟩ = some bsv := by rw [cell_of_row _ _ _ _ _ _ hat.world]; rfl
  have hwl := hat.lt
  by_cases hl0 : bl.length = 0
  · have hbv : ∃ ao cap, bsv = .slice ao 0 cap := by
      rcases hat.own.2 with ⟨h, _⟩ | ⟨g, cap, cur, h, _⟩
      · exact ⟨none, 0, h⟩
      · exact ⟨_, cap, by rw [hl0] at h; exact h⟩
    obtain ⟨ao, cap, rfl⟩ := hbv
    go_enter Tryz.func12, Tryz.ntmps12
    go_wp2_with fail
    go_ret
    exact ⟨rfl, bl, hat1, rfl⟩
  · have hjl := placeOf_lt bl.length a (by omega)
    have hjp := pick_place' a bl.length (by omega)
    generalize placeOf bl.length a = j at *
    obtain ⟨g, cap, rfl, hg, p0, p1⟩ := hat.cells hjl
    have hpk := fun W => lpick_any a (bl.length : Int) W ha1 ha2 (by omega)
    rw [hjp] at hpk
    clear hjp
    have q0 := (((Below.refl w.heap.size w).alloc (Nat.le_refl _) (.cells (opC k a b c K M O S s lv) 29)).cell (p := ⟨g, j * 2, none⟩) hg).trans p0
    have q1 := (((Below.refl w.heap.size w).alloc (Nat.le_refl _) (.cells (opC k a b c K M O S s lv) 29)).cell (p := ⟨g, j * 2 + 1, none⟩) hg).trans p1
    obtain ⟨c0, c1, c2, c4, c5, c6, c7, c8⟩ := op_cells hop
    have i1 : (0 : Int) ≤ (j : Int) := by omega
    have i2 : (j : Int) < (bl.length : Int) := by omega
    have hbn : ((bl.length : Int) == 0) = false := beq_eq_false_iff_ne.2 (by omega)
    generalize hpp : (bl.getD j PB.none).p = p at *
    generalize hrr : (bl.getD j PB.none).r = r at *
    go_enter Tryz.func12, Tryz.ntmps12
    go_upto_region 3 with fail
    generalize hW : w.alloc (.cells (opC k a b c K M O S s lv) 29) = W at *
    have hWs : W.heap.size = w.heap.size + 1 := by rw [← hW]; simp
    go_cut [5] (fun s5 wc => ∃ x, s5 = .pointer (some ⟨x, 0, none⟩) ∧ wc.heap[x]? = some (.cells #[.pointer (some ⟨p, 0, none⟩), .pointer (some ⟨r, 0, none⟩)] 72 (0, 0)) ∧ W.heap.size ≤ x ∧ Below W.heap.size W wc)
    case first =>
      have hbf := ((Below.refl W.heap.size W).alloc (Nat.le_refl _) (.cells #[.pointer (some ⟨p, 0, none⟩), .pointer (some ⟨r, 0, none⟩)] 72)).drew
      have hnw := heap_alloc_new W (.cells #[.pointer (some ⟨p, 0, none⟩), .pointer (some ⟨r, 0, none⟩)] 72)
      have hgW : g < W.heap.size := by omega
      have hwW : wb < W.heap.size := by omega
      have hoW : w.heap.size < W.heap.size := by omega
      clear hat hat1 hop hcb0 p0 p1 c0 c2 c4 c5 c6 c7 c8
      go_region_held3 (fun w' => w'.cell? ⟨wb, 6, none⟩ = some (.slice (some ⟨g, 0, none⟩) bl.length cap) ∧ w'.cell? ⟨w.heap.size, 1, none⟩ = some (.int .i64 a) ∧ w'.cell? ⟨g, j * 2, none⟩ = some (.pointer (some ⟨p, 0, none⟩)) ∧ w'.cell? ⟨g, j * 2 + 1, none⟩ = some (.pointer (some ⟨r, 0, none⟩)))
        (first | (exact ⟨hcb, c1, q0, q1⟩) | go_keep)
        (first
          | (go_at_call 25; refine (hpk _).mono ?_; rintro e w2 ⟨rfl, h2⟩; obtain rfl := h2.symm))
      all_goals
        go_wp2_with fail
        go_meet
        case rel => exact ⟨w.heap.size + 1, rfl, by rw [← hWs]; exact hnw, by omega, hbf⟩
    case rest =>
      obtain ⟨x, rfl, hx, hxl, hbc⟩ := hcut
      have hatc := hat1.on hbc
      have hopc := block_on hop hbc
      have hpr := hatc.each j hjl
      have hold : ∀ w', Below wc.heap.size wc w' → ∃ bl', BoxesAt w0 w' wb (.slice (some ⟨g, 0, none⟩) bl.length cap) bl' ∧ bl'.length = bl.length := fun w' h => ⟨bl, hatc.on h, rfl⟩
      have hupd : ∀ w' B', Chg (bl.getD j PB.none).fp wc w' → PairAt w' B' → B'.p = (bl.getD j PB.none).p → B'.r = (bl.getD j PB.none).r → (∀ k, B'.fp k → (bl.getD j PB.none).fp k ∨ wc.heap.size ≤ k) → ∃ bl', BoxesAt w0 w' wb (.slice (some ⟨g, 0, none⟩) bl.length cap) bl' ∧ bl'.length = bl.length :=
        fun w' B' h1 h2 h3 h4 h5 => ⟨bl.set j B', hatc.update hjl h1 h2 h3 h4 h5, by simp⟩
      subst hpp hrr
      clear hat hat1 hop hcb hcb0 p0 p1 q0 q1 c0 c1 c2 c4 c5 c6 c7 c8 hpk hbc hatc
      generalize bl.getD j PB.none = B at *
      obtain ⟨hx0, hx1⟩ := two_cells hx
      obtain ⟨c0, c1, c2, c4, c5, c6, c7, c8⟩ := op_cells hopc
      have hsp := hpr.spec
      have hK := hsp.hK
      have hM := hsp.hM
      have hO := hsp.hO
      have hS := hsp.hS
      have hz := hsp.hz
      have hpl := hpr.box.lt
      have hHO := hide hold
      have hHU := hide hupd
      clear hold hupd c1 c4 c5 c6 c7 hsp
      rcases hk with rfl | rfl | rfl
      · have hxp : x ≠ B.p := by
          rintro rfl
          obtain ⟨cs, hcs, _⟩ := hpr.box
          rw [hx] at hcs
          simp at hcs
        have hopp : w.heap.size ≠ B.p := by
          intro e
          obtain ⟨cs, hcs, _⟩ := hpr.box
          rw [← e, hopc] at hcs
          simp at hcs
        by_cases hr : b < 0 ∨ (B.K : Int) + (B.M : Int) ≤ b
        · go_wp2_with fail
          refine (put_arg B.p B.K (B.K + B.M) B.z b s (ofs B.K B.M B.O B.S) B.kn _ (by rw [Int.natCast_add]; exact hr) hpr.box).mono ?_
          rintro e w1 ⟨rfl, hw1⟩
          obtain rfl := hw1.symm
          go_wp2_with fail
          refine (rput_arg B.r B.K B.M B.O B.S B.z b s B.av B.pv _ hK.2 hM.2 hr hpr.rbox.box).mono ?_
          rintro e w2 ⟨rfl, hb2⟩
          have hend := hHO.out w2 hb2
          clear hHO hHU hpr hopc hx hx0 hx1 c0 c2 c8 hb2
          go_wp2_with fail
          go_ret
          exact ⟨by first | rfl | simp, hend⟩
        · obtain ⟨i, rfl⟩ := Int.eq_ofNat_of_zero_le (show 0 ≤ b by omega)
          have hi : i < B.K + B.M := by omega
          by_cases ht : s.size = B.z
          · obtain ⟨u1, u2⟩ := hpr.rel.put (by omega) hi ht
            have hput := put_ok B.p B.K (B.K + B.M) B.z i s (ofs B.K B.M B.O B.S) B.kn
            have hpsl : B.ps.length ≤ 900 := by have := hpr.cnt; omega
            have hrt := fun W h1 h2 => rput_told B.r B.K B.M B.O B.S B.z i s B.av B.pv B.ps W hK hM hO hS (by omega) h1 hpsl hpr.rel.inn hi ht h2
            have hrn := fun W h1 h2 => rput_new B.r B.K B.M B.O B.S B.z i s B.av B.pv B.ps W hK hM hO hS (by omega) h1 hpsl hpr.rel.inn hi ht h2
            have hpush := fun h0 => hpr.rel.push hK.2 hi ht h0
            have hopk := fun h0 => openK_put hpr.rel.ok hK.2 ht (ofs_lt B.K B.M B.O B.S i) h0
            have hpk : (left B.kn (ofs B.K B.M B.O B.S i) s).1 = 0 → putK B.kn (ofs B.K B.M B.O B.S i) s = B.kn := fun h0 => by unfold putK; rw [if_pos h0]
            generalize told (boxFacts B.K B.M B.O B.S B.z B.ps) (2 ^ i) B.z = td at *
            generalize left B.kn (ofs B.K B.M B.O B.S i) s = L at *
            generalize putK B.kn (ofs B.K B.M B.O B.S i) s = kn2 at *
            go_wp2_with fail
            refine (hput _ hK.2 hpr.rel.ok (ofs_lt B.K B.M B.O B.S) (by omega) (by omega) hi ht hpr.box).mono ?_
            rintro e w1 ⟨rfl, hbox1, hcg⟩
            have hrb1 := hpr.rbox.chg hcg (fun k hk => hpr.parted hk)
            have hxlt : x < wc.heap.size := (Array.getElem?_eq_some_iff.1 hx).1
            have holt : w.heap.size < wc.heap.size := (Array.getElem?_eq_some_iff.1 hopc).1
            have hx' := (hcg.block x hxlt hxp).trans hx
            have hop' := (hcg.block _ holt hopp).trans hopc
            obtain ⟨y0, y1⟩ := two_cells hx'
            clear hx0 hx1 c0 c2 c8 hput
            obtain ⟨c0, c1, c2, c4, c5, c6, c7, c8⟩ := op_cells hop'
            clear c1 c4 c5 c6 c7
            have hcgf : Chg B.fp wc w1 := hcg.mono (fun k _ hk => Or.inl hk)
            cases htd : td.2
            · have h0 : L.1 ≠ 0 := fun h => by rw [u1.2 h] at htd; cases htd
              have hpe : putE L B.z = 0 := by unfold putE; rw [if_neg (fun h => h0 h.1)]
              rw [hpe]
              have hpsh := hpush h0
              have hok2 := hopk h0
              have HP := hide hpsh
              clear hpush hopk hpk u1 u2 hpe hrt hpsh
              go_wp2_with fail
              refine (hrn _ hrb1 htd).mono ?_
              rintro e w2 ⟨rfl, av', pv', hrb2, hcg2, hfp2⟩
              have hend := hHU.out w2 ⟨B.p, B.r, B.K, B.M, B.O, B.S, B.z, kn2, B.ps ++ [(i, s)], av', pv'⟩ (hcgf.trans hcg2 (fun k _ hk => Or.inr hk))
                ⟨hpr.spec, HP.out, by have := hpr.cnt; show (B.ps ++ [(i, s)]).length + openK kn2 B.K = B.K; rw [List.length_append]; simp; omega, hbox1.block (hcg2.block _ hbox1.lt (fun h => hpr.parted h rfl)), hrb2, fun h => by simp at h⟩ rfl rfl
                (fun k hk => by
                  rcases hk with hk | hk
                  · exact Or.inl (Or.inl hk)
                  · rcases hfp2 k hk with h | h
                    · exact Or.inl (Or.inr h)
                    · right; have := hcg.size; omega)
              clear hHO hHU hpr hopc hx hrn hrb1 hrb2 hop' hx' y0 y1 c0 c2 c8 hcg hcg2 hcgf hbox1 hfp2
              go_wp2_with fail
              go_ret
              exact ⟨by first | rfl | simp, hend⟩
            · have h0 : L.1 = 0 := u1.1 htd
              have hpe : putE L B.z = if td.1 = s then 0 else 4 := by
                unfold putE
                by_cases he : td.1 = s
                · rw [if_pos he, if_neg (fun h => h.2 ((u2 h0).2 he))]
                · rw [if_neg he, if_pos ⟨h0, fun h => he ((u2 h0).1 h)⟩]
              rw [hpe]
              rw [hpk h0] at hbox1
              clear hpush hopk hpk u1 u2 hpe hrn
              generalize (if td.1 = s then (0 : Int) else 4) = ee at *
              go_wp2_with fail
              refine (hrt _ hrb1 htd).mono ?_
              rintro e w2 ⟨rfl, hb2⟩
              have hend := hHU.out w2 B (hcgf.trans (Chg.of_below hb2 (fun _ => False)) (fun k _ hk => hk.elim))
                ⟨hpr.spec, hpr.rel, hpr.cnt, hbox1.on (Nat.le_refl _) hb2, hrb1.on (Nat.le_refl _) hb2, hpr.nil⟩ rfl rfl (fun k hk => Or.inl hk)
              clear hHO hHU hpr hopc hx hrt hrb1 hop' hx' y0 y1 c0 c2 c8 hcg hcgf hbox1 hb2
              go_wp2_with fail
              go_ret
              exact ⟨by first | rfl | simp, hend⟩
          · go_wp2_with fail
            refine (put_shape B.p B.K (B.K + B.M) B.z i s (ofs B.K B.M B.O B.S) B.kn _ hi ht hpr.box).mono ?_
            rintro e w1 ⟨rfl, hw1⟩
            obtain rfl := hw1.symm
            go_wp2_with fail
            refine (rput_shape B.r B.K B.M B.O B.S B.z i s B.av B.pv _ hK.2 hM.2 hi ht hpr.rbox.box).mono ?_
            rintro e w2 ⟨rfl, hb2⟩
            have hend := hHO.out w2 hb2
            clear hHO hHU hpr hopc hx hx0 hx1 c0 c2 c8 hb2
            go_wp2_with fail
            go_ret
            exact ⟨by first | rfl | simp, hend⟩
      · by_cases hr : b < 0 ∨ (B.K : Int) + (B.M : Int) ≤ b
        · go_wp2_with fail
          refine (get_arg B.p B.K (B.K + B.M) B.z b (ofs B.K B.M B.O B.S) B.kn _ (by rw [Int.natCast_add]; exact hr) hpr.box).mono ?_
          rintro e w1 ⟨rfl, hw1⟩
          obtain rfl := hw1.symm
          obtain ⟨r0, r1, r2, r3, r4, r5, r6, hrl⟩ := rbox_cells hpr.rbox.box
          have hbd : ∀ n, Below wc.heap.size wc (wc.drewN n) := fun n => ((Chg.refl (fun _ => False) wc).drewN n).below (fun _ _ x => x)
          clear r2 r3 r4 r5 r6
          by_cases hb0 : b < 0
          · have hd : decide (b < 0) = true := decide_eq_true hb0
            go_wp2_with fail
            go_quiet (fail)
            all_goals
              have hend := hHO.out _ (hbd nq)
              clear hHO hHU hpr hopc hx
              go_wp2_with fail
              go_ret
              exact ⟨by first | rfl | simp, hend⟩
          · have hd : decide (b < 0) = false := decide_eq_false hb0
            have hd2 : (B.K : Int) + (B.M : Int) ≤ b := by omega
            go_wp2_with fail
            go_quiet (fail)
            all_goals
              have hend := hHO.out _ (hbd nq)
              clear hHO hHU hpr hopc hx
              go_wp2_with fail
              go_ret
              exact ⟨by first | rfl | simp, hend⟩
        · obtain ⟨i, rfl⟩ := Int.eq_ofNat_of_zero_le (show 0 ≤ b by omega)
          have hi : i < B.K + B.M := by omega
          obtain ⟨g1, g2⟩ := hpr.rel.get (by omega) hi
          have hget := get_ok B.p B.K (B.K + B.M) B.z i (ofs B.K B.M B.O B.S) B.kn
          have hrg := fun W hb hA hP => rget_any B.r B.K B.M B.O B.S B.z i B.av B.pv B.ps W hK hM hO hS (by omega) hb hA hP (by have := hpr.cnt; omega) hpr.rel.inn (by omega)
          generalize told (boxFacts B.K B.M B.O B.S B.z B.ps) (2 ^ i) B.z = td at *
          generalize left B.kn (ofs B.K B.M B.O B.S i) (zeroB B.z) = L at *
          go_wp2_with fail
          refine (hget _ hK.2 hpr.rel.ok (ofs_lt B.K B.M B.O B.S) (by omega) (by omega) hi hpr.box).mono ?_
          rintro e w1 ⟨rfl, hb1⟩
          have hrb1 := hpr.rbox.on (Nat.le_refl _) hb1
          have hx' := block_on hx hb1
          have hop' := block_on hopc hb1
          obtain ⟨r0, r1, r2, r3, r4, r5, r6, hrl⟩ := rbox_cells hrb1.box
          obtain ⟨y0, y1⟩ := two_cells hx'
          clear hx0 hx1 c0 c2 c8 r2 r3 r4 r5 r6 hget
          obtain ⟨c0, c1, c2, c4, c5, c6, c7, c8⟩ := op_cells hop'
          have hbd : ∀ n, Below w1.heap.size w1 (w1.drewN n) := fun n => ((Chg.refl (fun _ => False) w1).drewN n).below (fun _ _ x => x)
          have hd : decide ((i : Int) < 0) = false := decide_eq_false (by omega)
          have hd2 : ¬ (B.K : Int) + (B.M : Int) ≤ (i : Int) := by omega
          clear c1 c4 c5 c6 c7
          by_cases h0 : L.1 = 0
          · rw [if_pos h0, g2 h0]
            have htd := g1.2 h0
            rw [htd] at hrg
            clear g1 g2 h0 htd
            generalize td.1 = tt at *
            go_wp2_with fail
            go_quiet (fail)
            all_goals
              have hb2 := hbd nq
              have hrb2 := hrb1.on (Nat.le_refl _) hb2
              go_wp2_with fail
              refine (hrg _ hrb2.box hrb2.nums hrb2.texts).mono ?_
              rintro e w3 ⟨rfl, hb3⟩
              have hend := hHO.out w3 (hb1.trans ((hb2.trans (hb3.mono hb2.size)).mono hb1.size))
              clear hHO hHU hpr hopc hx hrg hb1 hb2 hb3 hrb1 hrb2 hop' hx' y0 y1 c0 c2 c8 r0 r1
              go_wp2_with fail
              go_ret
              exact ⟨by first | rfl | simp, hend⟩
          · rw [if_neg h0]
            have htd : td.2 = false := by
              cases h : td.2
              · rfl
              · exact absurd (g1.1 h) h0
            rw [htd] at hrg
            clear g1 g2 h0 htd
            generalize td.1 = tt at *
            go_wp2_with fail
            go_quiet (fail)
            all_goals
              have hb2 := hbd nq
              have hrb2 := hrb1.on (Nat.le_refl _) hb2
              go_wp2_with fail
              refine (hrg _ hrb2.box hrb2.nums hrb2.texts).mono ?_
              rintro e w3 ⟨rfl, hb3⟩
              have hend := hHO.out w3 (hb1.trans ((hb2.trans (hb3.mono hb2.size)).mono hb1.size))
              clear hHO hHU hpr hopc hx hrg hb1 hb2 hb3 hrb1 hrb2 hop' hx' y0 y1 c0 c2 c8 r0 r1
              go_wp2_with fail
              go_ret
              exact ⟨by first | rfl | simp, hend⟩
      · go_wp2_with fail
        refine (need_any B.p B.K (B.K + B.M) B.z (ofs B.K B.M B.O B.S) B.kn _ hK.2 hpr.box).mono ?_
        rintro e w1 ⟨rfl, hw1⟩
        obtain rfl := hw1.symm
        go_wp2_with fail
        refine (rneed_any B.r B.K B.M B.O B.S B.z B.av B.pv B.ps _ hK hM hO hS (by omega) hpr.rbox (by have := hpr.cnt; omega) hpr.rel.inn hpr.nil).mono ?_
        rintro e w2 ⟨rfl, hb2⟩
        rw [hpr.rel.need hK.2 (by omega)]
        have hend := hHO.out w2 hb2
        clear hHO hHU hpr hopc hx hx0 hx1 c0 c2 c8 hb2
        go_wp2_with fail
        go_ret
        exact ⟨by first | rfl | simp, hend⟩

end Go.Proofs.YtnjaofkieajnlaaGreat
