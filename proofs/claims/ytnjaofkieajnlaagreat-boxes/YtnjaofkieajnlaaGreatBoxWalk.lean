/- The document's own boxes: facts. -/
import Derived.Test.YtnjaofkieajnlaaGreatToldWalk
import Derived.Test.YtnjaofkieajnlaaGreatBoxMaths
namespace Go.Proofs.YtnjaofkieajnlaaGreat
open Go.RowKit

/-- A box of the document's, as its block holds it. -/
abbrev rboxB (K M O S z : Nat) (av pv : Value) : Obj := .cells #[.int .i64 (K : Int), .int .i64 (M : Int), .int .i64 (O : Int), .int .i64 (S : Int), .int .i64 (z : Int), av, pv] 70 (0, 0)

theorem rbox_cells {w : World} {p K M O S z : Nat} {av pv : Value} (h : w.heap[p]? = some (rboxB K M O S z av pv)) :
    w.cell? ⟨p, 0, none⟩ = some (.int .i64 (K : Int)) ∧ w.cell? ⟨p, 1, none⟩ = some (.int .i64 (M : Int)) ∧ w.cell? ⟨p, 2, none⟩ = some (.int .i64 (O : Int)) ∧ w.cell? ⟨p, 3, none⟩ = some (.int .i64 (S : Int)) ∧ w.cell? ⟨p, 4, none⟩ = some (.int .i64 (z : Int)) ∧ w.cell? ⟨p, 5, none⟩ = some av ∧ w.cell? ⟨p, 6, none⟩ = some pv ∧ p < w.heap.size := by
  refine ⟨?_, ?_, ?_, ?_, ?_, ?_, ?_, (Array.getElem?_eq_some_iff.1 h).1⟩ <;> rw [cell_of_row _ _ _ _ _ _ h] <;> rfl

/-- A list of numbers, as it is read. -/
def NumsAt (w : World) (v : Value) (l : List Nat) : Prop :=
  ∃ ao cap, v = .slice ao l.length cap ∧ l.length ≤ cap ∧ ∀ k, k < l.length → ∃ q o, ao = some ⟨q, o, none⟩ ∧ q < w.heap.size ∧ w.cell? ⟨q, o + k, none⟩ = some (.int .i64 (l.getD k 0 : Int))

theorem NumsAt.on {w w1 : World} {v : Value} {l : List Nat} (h : NumsAt w v l) (hb : Below w.heap.size w w1) : NumsAt w1 v l := by
  obtain ⟨ao, cap, hv, hl, hc⟩ := h
  refine ⟨ao, cap, hv, hl, fun k hk => ?_⟩
  obtain ⟨q, o, ha, hq, hcell⟩ := hc k hk
  exact ⟨q, o, ha, Nat.lt_of_lt_of_le hq hb.size, by rw [hb.cell hq]; exact hcell⟩

theorem rowBits_lt (row : List Nat) (h : ∀ j ∈ row, j < 40) : rowBits row < 1099511627776 := by
  have : rowBits row < 2 ^ 40 := Nat.lt_pow_two_of_testBit _ (fun i hi => by
    rw [testBit_rowBits]
    exact decide_eq_false (fun hm => by have := h i hm; omega))
  omega

theorem rowBits_take (row : List Nat) (k : Nat) (h : k < row.length) : rowBits (row.take (k + 1)) = rowBits (row.take k) ||| 2 ^ row.getD k 0 := by
  unfold rowBits
  rw [List.take_succ_eq_append_getElem h, List.foldl_append, List.getD_eq_getElem?_getD, List.getElem?_eq_getElem h]; rfl

theorem puts_take (ps : List (Nat × ByteArray)) (k : Nat) (h : k < ps.length) : (putFacts ps).take (k + 1) = (putFacts ps).take k ++ [(2 ^ (ps.map Prod.fst).getD k 0, (ps.map Prod.snd).getD k ByteArray.empty)] := by
  have hl : k < (putFacts ps).length := by simpa [putFacts] using h
  rw [List.take_succ_eq_append_getElem hl]
  simp [putFacts, h]

theorem pow_lt (j : Nat) (h : j < 40) : 2 ^ j < 1099511627776 := Nat.lt_of_lt_of_le (Nat.pow_lt_pow_right (by omega) h) (by decide)

theorem shl_nat (x : Nat) (h : x < 40) : RowKit.wrap64 (2 ^ x) = ((2 ^ x : Nat) : Int) := by
  have h1 := pow_lt x h
  have h2 : (2 : Int) ^ x = ((2 ^ x : Nat) : Int) := by rw [Int.natCast_pow]; rfl
  rw [h2]
  generalize 2 ^ x = y at *
  unfold RowKit.wrap64
  omega

theorem shl_wrap (x : Nat) (h : x < 40) : IntKind.i64.wrap (2 ^ x) = ((2 ^ x : Nat) : Int) := by
  have h1 := pow_lt x h
  have h2 : (2 : Int) ^ x = ((2 ^ x : Nat) : Int) := by rw [Int.natCast_pow]; rfl
  rw [h2]
  exact wrapNat _ (by omega)

set_option maxRecDepth 100000 in
set_option maxHeartbeats 8000000 in
theorem facts_any (p K M O S z : Nat) (av pv : Value) (ps : List (Nat × ByteArray)) (w : World) (hK : 1 ≤ K ∧ K ≤ 20) (hM : 1 ≤ M ∧ M ≤ 20) (hO : 1 ≤ O ∧ O ≤ M) (hS : S ≤ 65535) (hz : 0 < z ∧ z ≤ 1000)
    (hbox : w.heap[p]? = some (rboxB K M O S z av pv)) (hA : NumsAt w av (ps.map Prod.fst)) (hP : TextsAt w pv (ps.map Prod.snd)) (hps : ps.length ≤ 900) (hpi : ∀ x ∈ ps, x.1 < 40) :
    Calls Tryz.prog 57 #[.pointer (some ⟨p, 0, none⟩)] w fun e w' => ∃ v', e = .returned v' ∧ w'.ownsRow w.heap.size 138 2 v' (boxFacts K M O S z ps).length (factV (boxFacts K M O S z ps)) ∧ Below w.heap.size w w' := by
  obtain ⟨i0, hi, hz0, hz1, hz2⟩ := info_parts Tryz.infoFact
  obtain ⟨c0, c1, c2, c3, c4, c5, c6, hp⟩ := rbox_cells hbox
  go_enter Tryz.func57, Tryz.ntmps57
  go_wp2_with fail
  refine (rrows_ok K M O S _ hK hM hO hS).mono ?_
  rintro e w1 ⟨g, rv, rfl, hrows, hg, hb1⟩
  have hbox1 : w1.heap[p]? = some (rboxB K M O S z av pv) := by rw [hb1.block p hp]; exact hbox
  have hA1 := hA.on hb1
  have hP1 := hP.on hb1
  obtain ⟨ao, acap, rfl, hac, hA2⟩ := hA1
  obtain ⟨po, pcap, rfl, hpc, hP2⟩ := hP1
  rw [List.length_map] at hac hpc hA2 hP2
  clear c0 c1 c2 c3 c4 c5 c6 hbox hA hP
  go_wp2_with fail
  go_loopw [3, 16] (fun lv iv wr => ∃ i : Nat, i ≤ M ∧ iv = .int .i64 (i : Int) ∧ wr.ownsRow w1.heap.size 138 2 lv i (factV ((rowFacts K M O S z).take i)) ∧ Below w1.heap.size w1 wr) (fun _ i _ => M - (intOf i).toNat)
  case atStart => exact ⟨0, Nat.zero_le _, rfl, World.ownsRow_nil _ _ _ _, Below.refl _ _⟩
  case round =>
    obtain ⟨i, hiM, rfl, hown, hbel⟩ := hrel
    by_cases hlt : i < M
    · obtain ⟨W, rfl⟩ : ∃ W, W = wr := ⟨_, rfl⟩
      have hrW := hrows.below hbel
      have hbW := (hbel.block p (Nat.lt_of_lt_of_le hp hb1.size)).trans hbox1
      have hcell := hrW.cell hlt
      have hro := hrW.own i hlt
      have hrl := rowOf_len K M O S i
      have hrlt := rowOf_lt K M O S i
      obtain ⟨c0, c1, c2, c3, c4, c5, c6, hpW⟩ := rbox_cells hbW
      clear c0 c1 c2 c3 c5 c6
      have i1 : (0 : Int) ≤ (i : Int) := by omega
      have i2 : (i : Int) < (M : Int) := by omega
      go_wp2_with fail
      refine (noughts_any z _ (by omega)).mono ?_
      rintro e w0 ⟨rfl, h0⟩
      obtain rfl := h0.symm
      rcases owns_cells hro with ⟨hv0, hnil⟩ | ⟨rg, rcap, hv0, hrc, hrcell⟩
      · exact absurd hnil (by rw [rowOf_head]; simp)
      · rw [hv0]
        have hrgl : rg < W.heap.size := (hro.lt rg (by rw [hv0]; rfl)).2
        generalize hrow : rowOf K M O S i = row at *
        have hr40 : ∀ j ∈ row, j < 40 := fun j hj => by have := hrlt j hj; omega
        go_wp2_with fail
        go_loopw [28] (fun jv wi => ∃ j : Nat, j ≤ row.length ∧ jv = .int .i64 (j : Int) ∧ wi.heap[W.heap.size]? = some (.cells (foundB (some (rowBits (row.take j), zeroB z))) 138 (0, 0)) ∧ Below W.heap.size W wi) (fun jv _ => row.length - (intOf jv).toNat)
        case atStart => exact ⟨0, Nat.zero_le _, rfl, heap_alloc_new W _, (Below.refl _ _).alloc (Nat.le_refl _) _⟩
        case round =>
          obtain ⟨j, hj, rfl, hfd, hbi⟩ := hrel
          obtain ⟨e0, e1, hqf⟩ := found_cells hfd
          dsimp only [Option.getD] at e0 e1
          by_cases hjl : j < row.length
          · have rc := (hbi.cell (p := ⟨rg, j, none⟩) hrgl).trans (hrcell j hjl)
            have hrb := rowBits_take row j hjl
            have Hrb := hide hrb
            have hb40 := rowBits_lt (row.take j) (fun x hx => hr40 x (List.mem_of_mem_take hx))
            have hx40 : row.getD j 0 < 40 := hr40 _ (by rw [List.getD_eq_getElem?_getD, List.getElem?_eq_getElem hjl]; exact List.getElem_mem hjl)
            have hp40 := pow_lt _ hx40
            have hor := i64_or_nat (rowBits (row.take j)) (2 ^ row.getD j 0) (by omega) (by omega)
            have z0 := found_frozen hfd 0
            clear hrcell hrb
            generalize row.getD j 0 = x at *
            generalize rowBits (row.take j) = b at *
            have hw64 := shl_nat x hx40
            have j1 : (0 : Int) ≤ (j : Int) := by omega
            have j2 : (j : Int) < (row.length : Int) := by omega
            have Hor := hide hor
            have Hw := hide hw64
            clear hor hw64
            go_wp2_with fail
            go_region
            all_goals
              have hfd2 := heap_setCell_same wr W.heap.size 0 _ _ (.int .i64 (bits BinOp.or IntKind.i64 (b : Int) (RowKit.wrap64 (2 ^ x)))) hfd
              have hbi2 := (hbi.setCell (p := ⟨W.heap.size, 0, none⟩) (Nat.le_refl _) (.int .i64 (bits BinOp.or IntKind.i64 (b : Int) (RowKit.wrap64 (2 ^ x))))).drew
              clear hfd hbi rc e0 e1 z0
              go_wp2_with fail
              go_roundw
              case rel => exact ⟨j + 1, by omega, by go_num, by rw [Hrb.out]; refine hfd2.trans ?_; rw [Hw.out, Hor.out]; rfl, hbi2⟩
              case measure => simp [intOf]; omega
          · have hjj : j = row.length := by omega
            rw [hjj, List.take_length] at hfd e0
            have hownI : wr.ownsRow w1.heap.size 138 2 u3 i (factV ((rowFacts K M O S z).take i)) := owns_of_block hown (fun k hk => hbi.block k (hown.lt k hk).2)
            have hbw : Below w1.heap.size w1 wr := hbel.trans (hbi.mono hbel.size)
            have hrf : (rowFacts K M O S z).take (i + 1) = (rowFacts K M O S z).take i ++ [(rowBits row, zeroB z)] := by
              have hl : i < (rowFacts K M O S z).length := by simp [rowFacts]; omega
              rw [List.take_succ_eq_append_getElem hl, ← hrow]
              simp [rowFacts]
            have Hrf := hide hrf
            clear hrf hrcell hown hbi
            generalize rowBits row = b at *
            go_wp2_with (at_builtin; refine wpList_append_lies _ rfl (.tmp 39) (.tmp 41) 112 rfl w1.heap.size 138 i0 _ 2 24 Tryz.underlying112 hi hz0 hz1 hz2 rfl (by decide) _ _ _ rfl (hownI.alloc _) ⟨wr.heap.size, 0, none⟩ 1 1 [.int .i64 (b : Int), .string (zeroB z)] rfl rfl (World.news_of_block (cs := #[_, _]) (heap_alloc_new wr _)) (by intro u hu; simp at hu; rcases hu with rfl | rfl <;> rfl) (by decide) (by unfold maxLen; omega) (by omega) (by simp; have := hbw.size; omega) (wr.heap.size + 1) (by simp) ?_)
            intro gg cap2 w2 hown3 hgr hat2 hlt2
            have hgr0 := grownBy_of_alloc hgr
            have hb2 : Below w1.heap.size w1 w2 := hbw.grown hgr0 hbw.size (fun k e => (hownI.lt k e).1)
            have hown4 : w2.ownsRow w1.heap.size 138 2 (.slice (some ⟨gg, 0, none⟩) (i + 1) cap2) (i + 1) (factV ((rowFacts K M O S z).take (i + 1))) := by rw [Hrf.out, factV_append]; exact hown3
            clear hown3 hgr hat2 hgr0 hfd e0 e1 hownI
            go_wp2
            go_roundw
            case rel => exact ⟨i + 1, by omega, by go_num, hown4, hb2⟩
            case measure => simp [intOf]; omega
    · have hiM2 : i = M := by omega
      subst hiM2
      obtain ⟨W, rfl⟩ : ∃ W, W = wr := ⟨_, rfl⟩
      have hrl : (rowFacts K i O S z).take i = rowFacts K i O S z := List.take_of_length_le (by simp [rowFacts])
      rw [hrl] at hown
      have hbW : W.heap[p]? = some (rboxB K i O S z (.slice ao ps.length acap) (.slice po ps.length pcap)) := by rw [hbel.block p (Nat.lt_of_lt_of_le hp hb1.size)]; simpa using hbox1
      obtain ⟨c0, c1, c2, c3, c4, c5, c6, hpW⟩ := rbox_cells hbW
      clear c0 c1 c2 c3 c4 hrl hrows
      have hp1 : p < w1.heap.size := Nat.lt_of_lt_of_le hp hb1.size
      go_wp2_with fail
      go_loopw [3, 49] (fun lv kv wi => ∃ k : Nat, k ≤ ps.length ∧ kv = .int .i64 (k : Int) ∧ wi.ownsRow w1.heap.size 138 2 lv (i + k) (factV (rowFacts K i O S z ++ (putFacts ps).take k)) ∧ Below w1.heap.size w1 wi) (fun _ k _ => ps.length - (intOf k).toNat)
      case atStart => exact ⟨0, Nat.zero_le _, rfl, by simpa using hown, hbel⟩
      case round =>
        clear hown c5 c6 hbel
        obtain ⟨k, hk, rfl, hown, hbel⟩ := hrel
        by_cases hkl : k < ps.length
        · obtain ⟨qa, oa, rfl, hqa, a0⟩ := hA2 k hkl
          obtain ⟨qp, op, rfl, hqp, p0⟩ := hP2 k hkl
          have hbk : wr.heap[p]? = some (rboxB K i O S z (.slice (some ⟨qa, oa, none⟩) ps.length acap) (.slice (some ⟨qp, op, none⟩) ps.length pcap)) := by rw [hbel.block p hp1]; simpa using hbox1
          obtain ⟨c0, c1, c2, c3, c4, c5, c6, hpk⟩ := rbox_cells hbk
          have a1 := (hbel.cell (p := ⟨qa, oa + k, none⟩) hqa).trans a0
          have p1 := (hbel.cell (p := ⟨qp, op + k, none⟩) hqp).trans p0
          have hpt := puts_take ps k hkl
          have hx40 : (ps.map Prod.fst).getD k 0 < 40 := by
            have he : (ps.map Prod.fst).getD k 0 = (ps[k]).1 := by simp [hkl]
            rw [he]; exact hpi _ (List.getElem_mem hkl)
          have hsh := shl_wrap _ hx40
          have Hsh := hide hsh
          have Hpt := hide hpt
          have hsb := hbel.size
          have i1 : (0 : Int) ≤ (k : Int) := by omega
          have i2 : (k : Int) < (ps.length : Int) := by omega
          clear hA2 hP2 a0 p0 hpt hsh hbox1 hbW c0 c1 c2 c3 c4
          generalize (ps.map Prod.fst).getD k 0 = x at *
          generalize (ps.map Prod.snd).getD k ByteArray.empty = y at *
          have n1 : ∀ a : Addr, a.block < w1.heap.size → some a.block ≠ u3.ownBlock := fun a ha e => by have := (hown.lt _ e.symm).1; omega
          go_wp2_with fail
          go_region_held3 (fun w' => w'.cell? ⟨p, 5, none⟩ = some (.slice (some ⟨qa, oa, none⟩) ps.length acap) ∧ w'.cell? ⟨p, 6, none⟩ = some (.slice (some ⟨qp, op, none⟩) ps.length pcap) ∧ w'.cell? ⟨qa, oa + k, none⟩ = some (.int .i64 (x : Int)) ∧ w'.cell? ⟨qp, op + k, none⟩ = some (.string y))
            (first | (exact ⟨j0, j1, j2, j3⟩) | go_keep)
            (first
              | (refine step_append_lies _ (by rfl) (.tmp 52) (.tmp 69) 112 (by rfl) w1.heap.size 138 i0 _ 2 24 Tryz.underlying112 hi hz0 hz1 hz2 rfl (by decide) _ _ _ (by rfl) (World.ownsRow.drew (World.ownsRow.alloc hown _)) ⟨wr.heap.size, 0, none⟩ 1 1 [_, _] (by rfl) rfl (World.news_of_block (cs := #[_, _]) (heap_alloc_new wr _)) (by intro u hu; simp at hu; rcases hu with rfl | rfl <;> rfl) (by decide) (by unfold maxLen; omega) (by omega) (by simp; omega) (wr.heap.size + 1) (by simp) ?_; intro gg cap2 w2 hown3 hgr hat2 hlt2; have hgr0 := grownBy_of_alloc (grownBy_of_drew hgr); have j0 := (hgr0.cell_far ⟨p, 5, none⟩ (by simp; omega) (n1 ⟨p, 5, none⟩ hp1)).trans c5; have j1 := (hgr0.cell_far ⟨p, 6, none⟩ (by simp; omega) (n1 ⟨p, 6, none⟩ hp1)).trans c6; have j2 := (hgr0.cell_far ⟨qa, oa + k, none⟩ (by simp; omega) (n1 ⟨qa, oa + k, none⟩ hqa)).trans a1; have j3 := (hgr0.cell_far ⟨qp, op + k, none⟩ (by simp; omega) (n1 ⟨qp, op + k, none⟩ hqp)).trans p1)
              | (refine step_append_lies _ (by rfl) (.tmp 52) (.tmp 69) 112 (by rfl) w1.heap.size 138 i0 _ 2 24 Tryz.underlying112 hi hz0 hz1 hz2 rfl (by decide) _ _ _ (by rfl) (World.ownsRow.alloc (World.ownsRow.drew hown) _) ⟨wr.heap.size, 0, none⟩ 1 1 [_, _] (by rfl) rfl (World.news_of_block (cs := #[_, _]) (heap_alloc_new wr.drew _)) (by intro u hu; simp at hu; rcases hu with rfl | rfl <;> rfl) (by decide) (by unfold maxLen; omega) (by omega) (by simp; omega) (wr.heap.size + 1) (by simp) ?_; intro gg cap2 w2 hown3 hgr hat2 hlt2; have hgr0 := grownBy_of_drew (grownBy_of_alloc hgr); have j0 := (hgr0.cell_far ⟨p, 5, none⟩ (by simp; omega) (n1 ⟨p, 5, none⟩ hp1)).trans c5; have j1 := (hgr0.cell_far ⟨p, 6, none⟩ (by simp; omega) (n1 ⟨p, 6, none⟩ hp1)).trans c6; have j2 := (hgr0.cell_far ⟨qa, oa + k, none⟩ (by simp; omega) (n1 ⟨qa, oa + k, none⟩ hqa)).trans a1; have j3 := (hgr0.cell_far ⟨qp, op + k, none⟩ (by simp; omega) (n1 ⟨qp, op + k, none⟩ hqp)).trans p1))
          have hb2 : Below w1.heap.size w1 w2 := hbel.grown hgr0 hsb (fun q e => (hown.lt q e).1)
          have hown4 : w2.ownsRow w1.heap.size 138 2 (.slice (some ⟨gg, 0, none⟩) (i + k + 1) cap2) (i + (k + 1)) (factV (rowFacts K i O S z ++ (putFacts ps).take (k + 1))) := by
            rw [Hpt.out, ← List.append_assoc, factV_append, ← Nat.add_assoc]
            rw [Hsh.out] at hown3
            exact hown3
          clear hown3 hgr hat2 hgr0 hown hbel j0 j1 j2 j3 c5 c6 a1 p1
          go_wp2
          go_roundw
          case rel => exact ⟨k + 1, by omega, by go_num, hown4, hb2⟩
          case measure => simp [intOf]; omega
        · have hkk : k = ps.length := by omega
          have htk : (putFacts ps).take k = putFacts ps := List.take_of_length_le (by simp [putFacts]; omega)
          have hlen : (boxFacts K i O S z ps).length = i + k := by simp [boxFacts, rowFacts, putFacts]; omega
          rw [htk] at hown
          have hb2 : Below w.heap.size w wr := hb1.trans (hbel.mono hb1.size)
          have hown2 : wr.ownsRow w.heap.size 138 2 u3 (boxFacts K i O S z ps).length (factV (boxFacts K i O S z ps)) := by
            rw [hlen]; exact owns_base hown (fun q e => by have := (hown.lt q e).1; have := hb1.size; omega)
          clear hown hbel
          go_wp2_with fail
          go_ret
          exact ⟨_, rfl, hown2, hb2⟩

end Go.Proofs.YtnjaofkieajnlaaGreat
