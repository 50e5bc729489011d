/- Texts of the proof, part 13. -/
import Derived.Laws.IdiomStrings
import Derived.Test.YtnjaofkieajnlaaGreatAlluptoG1
import Derived.Test.YtnjaofkieajnlaaGreatAlluptoG10
import Derived.Test.YtnjaofkieajnlaaGreatAlluptoG11
import Derived.Test.YtnjaofkieajnlaaGreatAlluptoG2
import Derived.Test.YtnjaofkieajnlaaGreatAlluptoG6
import Derived.Test.YtnjaofkieajnlaaGreatAlluptoG7

/- The document's own told: what facts say of the sum of some pieces. -/
namespace Go.Proofs.YtnjaofkieajnlaaGreat
open Go.RowKit

theorem stairsAll_all (z : Nat) (l : List Fct) (hs : Sized z l) (hl : Low 40 l) (n : Nat) (hn : n = 40) : Sized z (stairsAll l n) ∧ ∀ f ∈ stairsAll l n, f.1 < 1099511627776 := by
  have hk := stair_ok z l hs hl n (by omega)
  refine ⟨hk.sized, fun f hf => ?_⟩
  have h1 := sp_low (l.map Prod.fst) 40 (fun x hx j hj => by obtain ⟨g, hg, rfl⟩ := List.mem_map.1 hx; exact hl g hg j hj) ((sp_iff l f.1).2 ⟨_, hk.back f hf⟩)
  have h2 : f.1 < 2 ^ 40 := Nat.lt_pow_two_of_testBit _ (fun i hi => h1 i hi)
  omega

theorem stairs_all (z : Nat) (l : List Fct) (hs : Sized z l) (hl : Low 40 l) : Sized z (stairs l) ∧ ∀ f ∈ stairs l, f.1 < 1099511627776 := stairsAll_all z l hs hl 40 rfl

theorem stairsAll_len (l : List Fct) (n : Nat) : (stairsAll l n).length ≤ l.length := by
  have := stairsTo_len l n
  show ((stairsTo l n).1 ++ (stairsTo l n).2).length ≤ _
  rw [List.length_append]; exact this

theorem stairs_len (l : List Fct) : (stairs l).length ≤ l.length := stairsAll_len l 40

/-- What is told as far as k. -/
def telling (S : List Fct) (st : Nat × ByteArray) (k : Nat) : Nat × ByteArray := tell (S.take k) st

theorem telling_succ (S : List Fct) (st : Nat × ByteArray) (k : Nat) (h : k < S.length) : telling S st (k + 1) = tellStep (telling S st k) (S.getD k (0, ByteArray.empty)) := by
  unfold telling tell
  rw [List.take_succ_eq_append_getElem h, List.foldl_append, List.getD_eq_getElem?_getD, List.getElem?_eq_getElem h]; rfl

theorem telling_all (S : List Fct) (st : Nat × ByteArray) : telling S st S.length = tell S st := by unfold telling; rw [List.take_length]

theorem log2_up {x h : Nat} (hx : x < 1099511627776) (hh : h ≤ x.log2) : (h < 40 ∧ (1 : Int) < (x : Int) / 2 ^ h ∧ h + 1 ≤ x.log2) ∨ (h = x.log2 ∧ h < 40 ∧ ¬ (1 : Int) < (x : Int) / 2 ^ h) := by
  have h40 : x.log2 < 40 := by
    by_cases h0 : x = 0
    · subst h0; decide
    · exact (Nat.log2_lt h0).2 (by omega)
  rw [div_cast]
  by_cases hlt : h < x.log2
  · refine Or.inl ⟨by omega, ?_, hlt⟩
    have h0 : x ≠ 0 := fun e => by subst e; simp at hlt
    have h1 : 2 ^ (h + 1) ≤ x := (Nat.le_log2 h0).1 hlt
    have h2 : 2 ≤ x / 2 ^ h := (Nat.le_div_iff_mul_le (Nat.two_pow_pos h)).2 (by rw [Nat.pow_succ] at h1; omega)
    omega
  · have he : h = x.log2 := by omega
    refine Or.inr ⟨he, by omega, ?_⟩
    have h1 : x < 2 ^ (h + 1) := by rw [he]; exact Nat.lt_log2_self
    have h2 : x / 2 ^ h < 2 := Nat.div_lt_of_lt_mul (by rw [Nat.pow_succ] at h1; omega)
    omega

set_option maxRecDepth 100000 in
set_option maxHeartbeats 8000000 in
theorem told_any (v : Value) (l : List Fct) (x z : Nat) (w : World) (hl : l.length ≤ 1000) (hz : 0 < z ∧ z ≤ 1000) (hs : Sized z l) (hlo : Low 40 l) (hx : x < 1099511627776) (hat : FactsAt w v l) :
    Calls Tryz.prog 56 #[v, .int .i64 (x : Int), .int .i64 (z : Int)] w fun e w' => e = .returned (.tuple #[.string (told l x z).1, .bool (told l x z).2]) ∧ Below w.heap.size w w' := by
  have hSl := stairs_len l
  obtain ⟨hSz, hSx⟩ := stairs_all z l hs hlo
  have htd : told l x z = ((tell (stairs l) (x, zeroB z)).2, (tell (stairs l) (x, zeroB z)).1 == 0) := rfl
  go_enter Tryz.func56, Tryz.ntmps56
  go_wp2_with fail
  refine (noughts_any z _ (by omega)).mono ?_
  rintro e w0 ⟨rfl, rfl⟩
  go_wp2_with fail
  refine (stairs_any v l z _ hl hz hs hlo hat).mono ?_
  rintro e w1 ⟨v1, rfl, hown, hb1⟩
  have hS := owns_facts hown
  clear hown hat
  generalize stairs l = S at *
  obtain ⟨ao, cap, rfl, hcap, hL⟩ := hS
  go_wp2_with fail
  go_loopw [1, 8, 17] (fun bv tv iv wr => ∃ k : Nat, k ≤ S.length ∧ iv = .int .i64 (k : Int) ∧ bv = .int .i64 ((telling S (x, zeroB z) k).1 : Int) ∧ tv = .string (telling S (x, zeroB z) k).2 ∧ (telling S (x, zeroB z) k).1 < 1099511627776 ∧ (telling S (x, zeroB z) k).2.size = z ∧ Below w1.heap.size w1 wr) (fun _ _ i _ => S.length - (intOf i).toNat)
  case atStart => exact ⟨0, Nat.zero_le _, rfl, rfl, rfl, hx, zeroB_size z, Below.refl _ _⟩
  case round =>
    obtain ⟨k, hk, rfl, rfl, rfl, hb, ht, hbel⟩ := hrel
    by_cases hkS : k < S.length
    · obtain ⟨q, rfl, hq, c0, c1⟩ := hL k hkS
      have d0 := (hbel.cell (p := ⟨q, k * 2, none⟩) hq).trans c0
      have d1 := (hbel.cell (p := ⟨q, k * 2 + 1, none⟩) hq).trans c1
      have hts := telling_succ S (x, zeroB z) k hkS
      have hfl : S.getD k (0, ByteArray.empty) ∈ S := by rw [List.getD_eq_getElem?_getD, List.getElem?_eq_getElem hkS]; exact List.getElem_mem hkS
      have hf1 := hSx _ hfl
      have hf2 := hSz _ hfl
      generalize S.getD k (0, ByteArray.empty) = f at *
      generalize telling S (x, zeroB z) k = st at *
      obtain ⟨b, t⟩ := st
      dsimp only at hb ht ⊢
      have i1 : (0 : Int) ≤ (k : Int) := by omega
      have i2 : (k : Int) < (S.length : Int) := by omega
      have Hts := hide hts
      clear c0 c1 hL hts htd
      go_wp2_with fail
      go_loop [11] (fun hv => ∃ h : Nat, h ≤ f.1.log2 ∧ hv = .int .i64 (h : Int)) (fun hv => 40 - (intOf hv).toNat)
      case atStart => exact ⟨0, Nat.zero_le _, rfl⟩
      case round =>
        obtain ⟨h, hh, rfl⟩ := hrel
        rcases log2_up hf1 hh with ⟨h1, h2, h3⟩ | ⟨h1, h2, h3⟩
        · have h1' : (h : Int) < 40 := by omega
          go_wp2_with fail
          go_round
          case rel => exact ⟨h + 1, h3, by go_num⟩
          case measure => simp [intOf]; omega
        · subst h1
          have h1' : ((f.1.log2 : Nat) : Int) < 40 := by omega
          have hbo := bit_on b f.1.log2 (by omega)
          by_cases hf0 : f.1 = 0
          · have hne : ((f.1 : Int) != 0) = false := by rw [hf0]; rfl
            have hnx : telling S (x, zeroB z) (k + 1) = (b, t) := by rw [Hts.out]; simp [tellStep, hf0]
            have Hnx := hide hnx
            clear hnx hf0 hbo
            go_wp2_with fail
            go_roundw
            case rel => exact ⟨k + 1, by omega, by go_num, by rw [Hnx.out], by rw [Hnx.out], by rw [Hnx.out]; exact hb, by rw [Hnx.out]; exact ht, hbel.alloc hbel.size _⟩
            case measure => simp [intOf]; omega
          · have hne : ((f.1 : Int) != 0) = true := by simp [bne]; exact hf0
            by_cases htb : b.testBit f.1.log2 = true
            · rw [htb] at hbo
              have hnx : telling S (x, zeroB z) (k + 1) = (b ^^^ f.1, xorB t f.2) := by rw [Hts.out]; simp [tellStep, hf0, htb]
              have Hnx := hide hnx
              have hx2 := i64_xor_nat b f.1 (by omega) (by omega)
              have Hx2 := hide hx2
              have hlt2 : b ^^^ f.1 < 2 ^ 40 := Nat.xor_lt_two_pow (by omega) (by omega)
              have htf : t.size = f.2.size := by omega
              clear hnx hx2
              go_wp2_with fail
              refine (plus_any t f.2 _ htf (by omega) (by omega)).mono ?_
              rintro e wp ⟨rfl, hbp⟩
              have hb2 : Below w1.heap.size w1 wp := (hbel.alloc hbel.size _).trans (hbp.mono (by have := hbel.size; simp; omega))
              clear hbp hbel d0 d1
              go_wp2_with fail
              go_roundw
              case rel => exact ⟨k + 1, by omega, by go_num, by rw [Hnx.out, Hx2.out], by rw [Hnx.out], by rw [Hnx.out]; show b ^^^ f.1 < _; omega, by rw [Hnx.out]; show (xorB t f.2).size = z; rw [xorB_size htf]; exact ht, hb2⟩
              case measure => simp [intOf]; omega
            · have htb2 : b.testBit f.1.log2 = false := by simpa using htb
              rw [htb2] at hbo
              have hnx : telling S (x, zeroB z) (k + 1) = (b, t) := by rw [Hts.out]; simp [tellStep, htb2]
              have Hnx := hide hnx
              clear hnx
              go_wp2_with fail
              go_roundw
              case rel => exact ⟨k + 1, by omega, by go_num, by rw [Hnx.out], by rw [Hnx.out], by rw [Hnx.out]; exact hb, by rw [Hnx.out]; exact ht, hbel.alloc hbel.size _⟩
              case measure => simp [intOf]; omega
    · have hkk : k = S.length := by omega
      rw [hkk, telling_all]
      have hb2 : Below w0.heap.size w0 wr := hb1.trans (hbel.mono hb1.size)
      have Htd := hide htd
      have hbz : (((tell S (x, zeroB z)).1 : Int) == 0) = ((tell S (x, zeroB z)).1 == 0) := by
        cases hc : ((tell S (x, zeroB z)).1 == 0)
        · simp at hc ⊢; exact hc
        · simp at hc ⊢; exact hc
      clear htd hL hb ht
      generalize tell S (x, zeroB z) = st at *
      obtain ⟨b, t⟩ := st
      dsimp only at hbz Htd ⊢
      go_wp2_with fail
      go_ret2
      exact ⟨by rw [Htd.out]; rfl, hb2⟩

end Go.Proofs.YtnjaofkieajnlaaGreat

/- The document's own boxes: facts. -/
namespace Go.Proofs.YtnjaofkieajnlaaGreat
open Go.RowKit

/-- A box of the document's, as its block holds it. -/
abbrev rboxB (K M O S z : Nat) (av pv : Value) : Obj := .cells #[.int .i64 (K : Int), .int .i64 (M : Int), .int .i64 (O : Int), .int .i64 (S : Int), .int .i64 (z : Int), av, pv] 70 (0, 0)

theorem rbox_cells {w : World} {p K M O S z : Nat} {av pv : Value} (h : w.heap[p]? = some (rboxB K M O S z av pv)) :
    w.cell? ⟨p, 0, none⟩ = some (.int .i64 (K : Int)) ∧ w.cell? ⟨p, 1, none⟩ = some (.int .i64 (M : Int)) ∧ w.cell? ⟨p, 2, none⟩ = some (.int .i64 (O : Int)) ∧ w.cell? ⟨p, 3, none⟩ = some (.int .i64 (S : Int)) ∧ w.cell? ⟨p, 4, none⟩ = some (.int .i64 (z : Int)) ∧ w.cell? ⟨p, 5, none⟩ = some av ∧ w.cell? ⟨p, 6, none⟩ = some pv ∧ p < w.heap.size := by
  refine ⟨?_, ?_, ?_, ?_, ?_, ?_, ?_, (Array.getElem?_eq_some_iff.1 h).1⟩ <;> rw [cell_of_row _ _ _ _ _ _ h] <;> rfl

/-- A list of numbers, as it is read. -/
def NumsAt (w : World) (v : Value) (l : List Nat) : Prop :=
  ∃ ao cap, v = .slice ao l.length cap ∧ l.length ≤ cap ∧ ∀ k, k < l.length → ∃ q o, ao = some ⟨q, o, none⟩ ∧ q < w.heap.size ∧ w.cell? ⟨q, o + k, none⟩ = some (.int .i64 (l.getD k 0 : Int))

theorem NumsAt.on {w w1 : World} {v : Value} {l : List Nat} (h : NumsAt w v l) (hb : Below w.heap.size w w1) : NumsAt w1 v l := by
  obtain ⟨ao, cap, hv, hl, hc⟩ := h
  refine ⟨ao, cap, hv, hl, fun k hk => ?_⟩
  obtain ⟨q, o, ha, hq, hcell⟩ := hc k hk
  exact ⟨q, o, ha, Nat.lt_of_lt_of_le hq hb.size, by rw [hb.cell hq]; exact hcell⟩

theorem rowBits_lt (row : List Nat) (h : ∀ j ∈ row, j < 40) : rowBits row < 1099511627776 := by
  have : rowBits row < 2 ^ 40 := Nat.lt_pow_two_of_testBit _ (fun i hi => by
    rw [testBit_rowBits]
    exact decide_eq_false (fun hm => by have := h i hm; omega))
  omega

theorem rowBits_take (row : List Nat) (k : Nat) (h : k < row.length) : rowBits (row.take (k + 1)) = rowBits (row.take k) ||| 2 ^ row.getD k 0 := by
  unfold rowBits
  rw [List.take_succ_eq_append_getElem h, List.foldl_append, List.getD_eq_getElem?_getD, List.getElem?_eq_getElem h]; rfl

theorem puts_take (ps : List (Nat × ByteArray)) (k : Nat) (h : k < ps.length) : (putFacts ps).take (k + 1) = (putFacts ps).take k ++ [(2 ^ (ps.map Prod.fst).getD k 0, (ps.map Prod.snd).getD k ByteArray.empty)] := by
  have hl : k < (putFacts ps).length := by simpa [putFacts] using h
  rw [List.take_succ_eq_append_getElem hl]
  simp [putFacts, h]

theorem pow_lt (j : Nat) (h : j < 40) : 2 ^ j < 1099511627776 := Nat.lt_of_lt_of_le (Nat.pow_lt_pow_right (by omega) h) (by decide)

theorem shl_nat (x : Nat) (h : x < 40) : RowKit.wrap64 (2 ^ x) = ((2 ^ x : Nat) : Int) := by
  have h1 := pow_lt x h
  have h2 : (2 : Int) ^ x = ((2 ^ x : Nat) : Int) := by rw [Int.natCast_pow]; rfl
  rw [h2]
  generalize 2 ^ x = y at *
  unfold RowKit.wrap64
  omega

theorem shl_wrap (x : Nat) (h : x < 40) : IntKind.i64.wrap (2 ^ x) = ((2 ^ x : Nat) : Int) := by
  have h1 := pow_lt x h
  have h2 : (2 : Int) ^ x = ((2 ^ x : Nat) : Int) := by rw [Int.natCast_pow]; rfl
  rw [h2]
  exact wrapNat _ (by omega)

set_option maxRecDepth 100000 in
set_option maxHeartbeats 8000000 in
theorem facts_any (p K M O S z : Nat) (av pv : Value) (ps : List (Nat × ByteArray)) (w : World) (hK : 1 ≤ K ∧ K ≤ 20) (hM : 1 ≤ M ∧ M ≤ 20) (hO : 1 ≤ O ∧ O ≤ M) (hS : S ≤ 65535) (hz : 0 < z ∧ z ≤ 1000)
    (hbox : w.heap[p]? = some (rboxB K M O S z av pv)) (hA : NumsAt w av (ps.map Prod.fst)) (hP : TextsAt w pv (ps.map Prod.snd)) (hps : ps.length ≤ 900) (hpi : ∀ x ∈ ps, x.1 < 40) :
    Calls Tryz.prog 57 #[.pointer (some ⟨p, 0, none⟩)] w fun e w' => ∃ v', e = .returned v' ∧ w'.ownsRow w.heap.size 138 2 v' (boxFacts K M O S z ps).length (factV (boxFacts K M O S z ps)) ∧ Below w.heap.size w w' := by
  obtain ⟨i0, hi, hz0, hz1, hz2⟩ := info_parts Tryz.infoFact
  obtain ⟨c0, c1, c2, c3, c4, c5, c6, hp⟩ := rbox_cells hbox
  go_enter Tryz.func57, Tryz.ntmps57
  go_wp2_with fail
  refine (rrows_ok K M O S _ hK hM hO hS).mono ?_
  rintro e w1 ⟨g, rv, rfl, hrows, hg, hb1⟩
  have hbox1 : w1.heap[p]? = some (rboxB K M O S z av pv) := by rw [hb1.block p hp]; exact hbox
  have hA1 := hA.on hb1
  have hP1 := hP.on hb1
  obtain ⟨ao, acap, rfl, hac, hA2⟩ := hA1
  obtain ⟨po, pcap, rfl, hpc, hP2⟩ := hP1
  rw [List.length_map] at hac hpc hA2 hP2
  clear c0 c1 c2 c3 c4 c5 c6 hbox hA hP
  go_wp2_with fail
  go_loopw [3, 16] (fun lv iv wr => ∃ i : Nat, i ≤ M ∧ iv = .int .i64 (i : Int) ∧ wr.ownsRow w1.heap.size 138 2 lv i (factV ((rowFacts K M O S z).take i)) ∧ Below w1.heap.size w1 wr) (fun _ i _ => M - (intOf i).toNat)
  case atStart => exact ⟨0, Nat.zero_le _, rfl, World.ownsRow_nil _ _ _ _, Below.refl _ _⟩
  case round =>
    obtain ⟨i, hiM, rfl, hown, hbel⟩ := hrel
    by_cases hlt : i < M
    · obtain ⟨W, rfl⟩ : ∃ W, W = wr := ⟨_, rfl⟩
      have hrW := hrows.below hbel
      have hbW := (hbel.block p (Nat.lt_of_lt_of_le hp hb1.size)).trans hbox1
      have hcell := hrW.cell hlt
      have hro := hrW.own i hlt
      have hrl := rowOf_len K M O S i
      have hrlt := rowOf_lt K M O S i
      obtain ⟨c0, c1, c2, c3, c4, c5, c6, hpW⟩ := rbox_cells hbW
      clear c0 c1 c2 c3 c5 c6
      have i1 : (0 : Int) ≤ (i : Int) := by omega
      have i2 : (i : Int) < (M : Int) := by omega
      go_wp2_with fail
      refine (noughts_any z _ (by omega)).mono ?_
      rintro e w0 ⟨rfl, h0⟩
      obtain rfl := h0.symm
      rcases owns_cells hro with ⟨hv0, hnil⟩ | ⟨rg, rcap, hv0, hrc, hrcell⟩
      · exact absurd hnil (by rw [rowOf_head]; simp)
      · rw [hv0]
        have hrgl : rg < W.heap.size := (hro.lt rg (by rw [hv0]; rfl)).2
        generalize hrow : rowOf K M O S i = row at *
        have hr40 : ∀ j ∈ row, j < 40 := fun j hj => by have := hrlt j hj; omega
        go_wp2_with fail
        go_loopw [28] (fun jv wi => ∃ j : Nat, j ≤ row.length ∧ jv = .int .i64 (j : Int) ∧ wi.heap[W.heap.size]? = some (.cells (foundB (some (rowBits (row.take j), zeroB z))) 138 (0, 0)) ∧ Below W.heap.size W wi) (fun jv _ => row.length - (intOf jv).toNat)
        case atStart => exact ⟨0, Nat.zero_le _, rfl, heap_alloc_new W _, (Below.refl _ _).alloc (Nat.le_refl _) _⟩
        case round =>
          obtain ⟨j, hj, rfl, hfd, hbi⟩ := hrel
          obtain ⟨e0, e1, hqf⟩ := found_cells hfd
          dsimp only [Option.getD] at e0 e1
          by_cases hjl : j < row.length
          · have rc := (hbi.cell (p := ⟨rg, j, none⟩) hrgl).trans (hrcell j hjl)
            have hrb := rowBits_take row j hjl
            have Hrb := hide hrb
            have hb40 := rowBits_lt (row.take j) (fun x hx => hr40 x (List.mem_of_mem_take hx))
            have hx40 : row.getD j 0 < 40 := hr40 _ (by rw [List.getD_eq_getElem?_getD, List.getElem?_eq_getElem hjl]; exact List.getElem_mem hjl)
            have hp40 := pow_lt _ hx40
            have hor := i64_or_nat (rowBits (row.take j)) (2 ^ row.getD j 0) (by omega) (by omega)
            have z0 := found_frozen hfd 0
            clear hrcell hrb
            generalize row.getD j 0 = x at *
            generalize rowBits (row.take j) = b at *
            have hw64 := shl_nat x hx40
            have j1 : (0 : Int) ≤ (j : Int) := by omega
            have j2 : (j : Int) < (row.length : Int) := by omega
            have Hor := hide hor
            have Hw := hide hw64
            clear hor hw64
            go_wp2_with fail
            go_region
            all_goals
              have hfd2 := heap_setCell_same wr W.heap.size 0 _ _ (.int .i64 (bits BinOp.or IntKind.i64 (b : Int) (RowKit.wrap64 (2 ^ x)))) hfd
              have hbi2 := (hbi.setCell (p := ⟨W.heap.size, 0, none⟩) (Nat.le_refl _) (.int .i64 (bits BinOp.or IntKind.i64 (b : Int) (RowKit.wrap64 (2 ^ x))))).drew
              clear hfd hbi rc e0 e1 z0
              go_wp2_with fail
              go_roundw
              case rel => exact ⟨j + 1, by omega, by go_num, by rw [Hrb.out]; refine hfd2.trans ?_; rw [Hw.out, Hor.out]; rfl, hbi2⟩
              case measure => simp [intOf]; omega
          · have hjj : j = row.length := by omega
            rw [hjj, List.take_length] at hfd e0
            have hownI : wr.ownsRow w1.heap.size 138 2 u3 i (factV ((rowFacts K M O S z).take i)) := owns_of_block hown (fun k hk => hbi.block k (hown.lt k hk).2)
            have hbw : Below w1.heap.size w1 wr := hbel.trans (hbi.mono hbel.size)
            have hrf : (rowFacts K M O S z).take (i + 1) = (rowFacts K M O S z).take i ++ [(rowBits row, zeroB z)] := by
              have hl : i < (rowFacts K M O S z).length := by simp [rowFacts]; omega
              rw [List.take_succ_eq_append_getElem hl, ← hrow]
              simp [rowFacts]
            have Hrf := hide hrf
            clear hrf hrcell hown hbi
            generalize rowBits row = b at *
            go_wp2_with (at_builtin; refine wpList_append_lies _ rfl (.tmp 39) (.tmp 41) 112 rfl w1.heap.size 138 i0 _ 2 24 Tryz.underlying112 hi hz0 hz1 hz2 rfl (by decide) _ _ _ rfl (hownI.alloc _) ⟨wr.heap.size, 0, none⟩ 1 1 [.int .i64 (b : Int), .string (zeroB z)] rfl rfl (World.news_of_block (cs := #[_, _]) (heap_alloc_new wr _)) (by intro u hu; simp at hu; rcases hu with rfl | rfl <;> rfl) (by decide) (by unfold maxLen; omega) (by omega) (by simp; have := hbw.size; omega) (wr.heap.size + 1) (by simp) ?_)
            intro gg cap2 w2 hown3 hgr hat2 hlt2
            have hgr0 := grownBy_of_alloc hgr
            have hb2 : Below w1.heap.size w1 w2 := hbw.grown hgr0 hbw.size (fun k e => (hownI.lt k e).1)
            have hown4 : w2.ownsRow w1.heap.size 138 2 (.slice (some ⟨gg, 0, none⟩) (i + 1) cap2) (i + 1) (factV ((rowFacts K M O S z).take (i + 1))) := by rw [Hrf.out, factV_append]; exact hown3
            clear hown3 hgr hat2 hgr0 hfd e0 e1 hownI
            go_wp2
            go_roundw
            case rel => exact ⟨i + 1, by omega, by go_num, hown4, hb2⟩
            case measure => simp [intOf]; omega
    · have hiM2 : i = M := by omega
      subst hiM2
      obtain ⟨W, rfl⟩ : ∃ W, W = wr := ⟨_, rfl⟩
      have hrl : (rowFacts K i O S z).take i = rowFacts K i O S z := List.take_of_length_le (by simp [rowFacts])
      rw [hrl] at hown
      have hbW : W.heap[p]? = some (rboxB K i O S z (.slice ao ps.length acap) (.slice po ps.length pcap)) := by rw [hbel.block p (Nat.lt_of_lt_of_le hp hb1.size)]; simpa using hbox1
      obtain ⟨c0, c1, c2, c3, c4, c5, c6, hpW⟩ := rbox_cells hbW
      clear c0 c1 c2 c3 c4 hrl hrows
      have hp1 : p < w1.heap.size := Nat.lt_of_lt_of_le hp hb1.size
      go_wp2_with fail
      go_loopw [3, 49] (fun lv kv wi => ∃ k : Nat, k ≤ ps.length ∧ kv = .int .i64 (k : Int) ∧ wi.ownsRow w1.heap.size 138 2 lv (i + k) (factV (rowFacts K i O S z ++ (putFacts ps).take k)) ∧ Below w1.heap.size w1 wi) (fun _ k _ => ps.length - (intOf k).toNat)
      case atStart => exact ⟨0, Nat.zero_le _, rfl, by simpa using hown, hbel⟩
      case round =>
        clear hown c5 c6 hbel
        obtain ⟨k, hk, rfl, hown, hbel⟩ := hrel
        by_cases hkl : k < ps.length
        · obtain ⟨qa, oa, rfl, hqa, a0⟩ := hA2 k hkl
          obtain ⟨qp, op, rfl, hqp, p0⟩ := hP2 k hkl
          have hbk : wr.heap[p]? = some (rboxB K i O S z (.slice (some ⟨qa, oa, none⟩) ps.length acap) (.slice (some ⟨qp, op, none⟩) ps.length pcap)) := by rw [hbel.block p hp1]; simpa using hbox1
          obtain ⟨c0, c1, c2, c3, c4, c5, c6, hpk⟩ := rbox_cells hbk
          have a1 := (hbel.cell (p := ⟨qa, oa + k, none⟩) hqa).trans a0
          have p1 := (hbel.cell (p := ⟨qp, op + k, none⟩) hqp).trans p0
          have hpt := puts_take ps k hkl
          have hx40 : (ps.map Prod.fst).getD k 0 < 40 := by
            have he : (ps.map Prod.fst).getD k 0 = (ps[k]).1 := by simp [hkl]
            rw [he]; exact hpi _ (List.getElem_mem hkl)
          have hsh := shl_wrap _ hx40
          have Hsh := hide hsh
          have Hpt := hide hpt
          have hsb := hbel.size
          have i1 : (0 : Int) ≤ (k : Int) := by omega
          have i2 : (k : Int) < (ps.length : Int) := by omega
          clear hA2 hP2 a0 p0 hpt hsh hbox1 hbW c0 c1 c2 c3 c4
          generalize (ps.map Prod.fst).getD k 0 = x at *
          generalize (ps.map Prod.snd).getD k ByteArray.empty = y at *
          have n1 : ∀ a : Addr, a.block < w1.heap.size → some a.block ≠ u3.ownBlock := fun a ha e => by have := (hown.lt _ e.symm).1; omega
          go_wp2_with fail
          go_region_held3 (fun w' => w'.cell? ⟨p, 5, none⟩ = some (.slice (some ⟨qa, oa, none⟩) ps.length acap) ∧ w'.cell? ⟨p, 6, none⟩ = some (.slice (some ⟨qp, op, none⟩) ps.length pcap) ∧ w'.cell? ⟨qa, oa + k, none⟩ = some (.int .i64 (x : Int)) ∧ w'.cell? ⟨qp, op + k, none⟩ = some (.string y))
            (first | (exact ⟨j0, j1, j2, j3⟩) | go_keep)
            (first
              | (refine step_append_lies _ (by rfl) (.tmp 52) (.tmp 69) 112 (by rfl) w1.heap.size 138 i0 _ 2 24 Tryz.underlying112 hi hz0 hz1 hz2 rfl (by decide) _ _ _ (by rfl) (World.ownsRow.drew (World.ownsRow.alloc hown _)) ⟨wr.heap.size, 0, none⟩ 1 1 [_, _] (by rfl) rfl (World.news_of_block (cs := #[_, _]) (heap_alloc_new wr _)) (by intro u hu; simp at hu; rcases hu with rfl | rfl <;> rfl) (by decide) (by unfold maxLen; omega) (by omega) (by simp; omega) (wr.heap.size + 1) (by simp) ?_; intro gg cap2 w2 hown3 hgr hat2 hlt2; have hgr0 := grownBy_of_alloc (grownBy_of_drew hgr); have j0 := (hgr0.cell_far ⟨p, 5, none⟩ (by simp; omega) (n1 ⟨p, 5, none⟩ hp1)).trans c5; have j1 := (hgr0.cell_far ⟨p, 6, none⟩ (by simp; omega) (n1 ⟨p, 6, none⟩ hp1)).trans c6; have j2 := (hgr0.cell_far ⟨qa, oa + k, none⟩ (by simp; omega) (n1 ⟨qa, oa + k, none⟩ hqa)).trans a1; have j3 := (hgr0.cell_far ⟨qp, op + k, none⟩ (by simp; omega) (n1 ⟨qp, op + k, none⟩ hqp)).trans p1)
              | (refine step_append_lies _ (by rfl) (.tmp 52) (.tmp 69) 112 (by rfl) w1.heap.size 138 i0 _ 2 24 Tryz.underlying112 hi hz0 hz1 hz2 rfl (by decide) _ _ _ (by rfl) (World.ownsRow.alloc (World.ownsRow.drew hown) _) ⟨wr.heap.size, 0, none⟩ 1 1 [_, _] (by rfl) rfl (World.news_of_block (cs := #[_, _]) (heap_alloc_new wr.drew _)) (by intro u hu; simp at hu; rcases hu with rfl | rfl <;> rfl) (by decide) (by unfold maxLen; omega) (by omega) (by simp; omega) (wr.heap.size + 1) (by simp) ?_; intro gg cap2 w2 hown3 hgr hat2 hlt2; have hgr0 := grownBy_of_drew (grownBy_of_alloc hgr); have j0 := (hgr0.cell_far ⟨p, 5, none⟩ (by simp; omega) (n1 ⟨p, 5, none⟩ hp1)).trans c5; have j1 := (hgr0.cell_far ⟨p, 6, none⟩ (by simp; omega) (n1 ⟨p, 6, none⟩ hp1)).trans c6; have j2 := (hgr0.cell_far ⟨qa, oa + k, none⟩ (by simp; omega) (n1 ⟨qa, oa + k, none⟩ hqa)).trans a1; have j3 := (hgr0.cell_far ⟨qp, op + k, none⟩ (by simp; omega) (n1 ⟨qp, op + k, none⟩ hqp)).trans p1))
          have hb2 : Below w1.heap.size w1 w2 := hbel.grown hgr0 hsb (fun q e => (hown.lt q e).1)
          have hown4 : w2.ownsRow w1.heap.size 138 2 (.slice (some ⟨gg, 0, none⟩) (i + k + 1) cap2) (i + (k + 1)) (factV (rowFacts K i O S z ++ (putFacts ps).take (k + 1))) := by
            rw [Hpt.out, ← List.append_assoc, factV_append, ← Nat.add_assoc]
            rw [Hsh.out] at hown3
            exact hown3
          clear hown3 hgr hat2 hgr0 hown hbel j0 j1 j2 j3 c5 c6 a1 p1
          go_wp2
          go_roundw
          case rel => exact ⟨k + 1, by omega, by go_num, hown4, hb2⟩
          case measure => simp [intOf]; omega
        · have hkk : k = ps.length := by omega
          have htk : (putFacts ps).take k = putFacts ps := List.take_of_length_le (by simp [putFacts]; omega)
          have hlen : (boxFacts K i O S z ps).length = i + k := by simp [boxFacts, rowFacts, putFacts]; omega
          rw [htk] at hown
          have hb2 : Below w.heap.size w wr := hb1.trans (hbel.mono hb1.size)
          have hown2 : wr.ownsRow w.heap.size 138 2 u3 (boxFacts K i O S z ps).length (factV (boxFacts K i O S z ps)) := by
            rw [hlen]; exact owns_base hown (fun q e => by have := (hown.lt q e).1; have := hb1.size; omega)
          clear hown hbel
          go_wp2_with fail
          go_ret
          exact ⟨_, rfl, hown2, hb2⟩

end Go.Proofs.YtnjaofkieajnlaaGreat

/- The small functions of the program's boxes: noughts and the highest data. -/
namespace Go.Proofs.YtnjaofkieajnlaaGreat
open Go.RowKit

theorem shl_small (x : Nat) (h : x < 40) : RowKit.wrap64 (2 ^ x) = ((2 ^ x : Nat) : Int) ∧ IntKind.i64.wrap (2 ^ x) = ((2 ^ x : Nat) : Int) := by
  have h1 : 2 ^ x < 1099511627776 := Nat.lt_of_lt_of_le (Nat.pow_lt_pow_right (by omega) h) (by decide)
  have h2 : (2 : Int) ^ x = ((2 ^ x : Nat) : Int) := by rw [Int.natCast_pow]; rfl
  rw [h2]
  generalize 2 ^ x = y at *
  constructor
  · unfold RowKit.wrap64
    omega
  · exact wrapNat _ (by omega)

theorem and_unit (x j : Nat) : x &&& 2 ^ j = if x.testBit j then 2 ^ j else 0 := by
  apply Nat.eq_of_testBit_eq
  intro i
  rw [Nat.testBit_and, Nat.testBit_two_pow]
  by_cases e : j = i
  · subst e
    cases h : x.testBit j <;> simp
  · cases h : x.testBit j <;> simp [e]

/-- Whether a number has a bit, as the program asks. -/
theorem bit_eq (x j : Nat) (hx : x < 1099511627776) (hj : j < 40) : (bits .and .i64 (x : Int) (RowKit.wrap64 (2 ^ j)) == 0) = !(x.testBit j) ∧ (bits .and .i64 (x : Int) (IntKind.i64.wrap (2 ^ j)) == 0) = !(x.testBit j) := by
  obtain ⟨h1, h2⟩ := shl_small j hj
  have h3 : 2 ^ j < 1099511627776 := Nat.lt_of_lt_of_le (Nat.pow_lt_pow_right (by omega) hj) (by decide)
  rw [h1, h2, i64_and_nat x (2 ^ j) (by omega) (by omega), and_unit]
  have h0 : 0 < 2 ^ j := Nat.two_pow_pos j
  cases x.testBit j
  · simp
  · have : ¬ ((2 ^ j : Nat) : Int) = 0 := by omega
    refine ⟨?_, ?_⟩ <;> simp only [if_true] <;> exact beq_eq_false_iff_ne.2 this

theorem bit_ne (x j : Nat) (hx : x < 1099511627776) (hj : j < 40) : (bits .and .i64 (x : Int) (RowKit.wrap64 (2 ^ j)) != 0) = x.testBit j ∧ (bits .and .i64 (x : Int) (IntKind.i64.wrap (2 ^ j)) != 0) = x.testBit j := by
  obtain ⟨h1, h2⟩ := bit_eq x j hx hj
  unfold bne
  rw [h1, h2, Bool.not_not]
  exact ⟨rfl, rfl⟩

set_option maxRecDepth 100000 in
set_option maxHeartbeats 1000000 in
theorem bnoughts_any (z : Nat) (w : World) (hz : z ≤ 1000) :
    Calls Tryz.prog 88 #[.int .i64 (z : Int)] w fun e w' => e = .returned (.string (zeroB z)) ∧ Below w.heap.size w w' := by
  have hmk := run_make_bytes z (by omega)
  have hrow : byteRow (w.alloc (.cells (madeCells #[.int .u8 0] z) 5)) w.heap.size z (byteAt (zeroB z)) := (World.rowIs_made w (.int .u8 0) z 5).congr (fun i _ => by rw [byteAt_zeroB]; rfl)
  have hc : ∀ i, i < z → (w.alloc (.cells (madeCells #[.int .u8 0] z) 5)).cell? ⟨w.heap.size, 0 + i, none⟩ = some (.int .u8 ((numsB (zeroB z)).getD i 0)) := fun i hi => by
    rw [Nat.zero_add, numsB_getD]; exact hrow.cell hi
  have hcv := run_convert_bytes_arg (P := Tryz.prog) (w.alloc (.cells (madeCells #[.int .u8 0] z) 5)) 106 5 Tryz.underlying106 Tryz.underlying5 w.heap.size 0 z z (numsB (zeroB z)) (by rw [numsB_length]; exact zeroB_size z) hc 9 Tryz.underlying9
  rw [strOfNums_numsB] at hcv
  clear hc hrow
  go_enter Tryz.func88, Tryz.ntmps88
  go_wp2
  go_ret
  exact ⟨rfl, (Below.refl _ _).alloc (Nat.le_refl _) _⟩

set_option maxRecDepth 100000 in
set_option maxHeartbeats 1000000 in
theorem highest_any (x : Nat) (w : World) (hx : x < 1048576) (h0 : x ≠ 0) :
    Calls Tryz.prog 87 #[.int .i64 (x : Int)] w fun e w' => e = .returned (.int .i64 (x.log2 : Int)) ∧ w' = w := by
  have htop := top_of h0
  have h20 : x.log2 < 20 := (Nat.log2_lt h0).2 hx
  go_enter Tryz.func87, Tryz.ntmps87
  go_wp2
  go_loop [3] (fun jv => ∃ j : Nat, j < 20 ∧ jv = .int .i64 (j : Int) ∧ x.log2 ≤ j) (fun jv => (intOf jv).toNat)
  case atStart => exact ⟨19, by omega, rfl, by omega⟩
  case round =>
    obtain ⟨j, hj, rfl, hle⟩ := hrel
    obtain ⟨b1, b2⟩ := bit_ne x j (by omega) (by omega)
    clear b2
    by_cases hj0 : j = 0
    · subst hj0
      have e : x.log2 = 0 := by omega
      clear b1
      go_wp2
      go_ret
      exact ⟨rfl, rfl⟩
    · have hpos : (0 : Int) < (j : Int) := by omega
      by_cases e : x.log2 = j
      · have ht : x.testBit j = true := by rw [← e]; exact htop.1
        rw [ht] at b1
        go_wp2
        go_ret
        exact ⟨rfl, rfl⟩
      · have ht : x.testBit j = false := htop.2 j (by omega)
        rw [ht] at b1
        go_wp2
        go_round
        case rel => exact ⟨j - 1, by omega, by go_num, by omega⟩
        case measure => simp [intOf]; omega

end Go.Proofs.YtnjaofkieajnlaaGreat

/- The word that the statements make: data, and the spare pieces that the program gives for them. -/
namespace Go.Proofs.YtnjaofkieajnlaaGreat
open Go.RowKit

theorem sparesOf_get (K M O S z i : Nat) (l : List ByteArray) (hi : i < M) : (sparesOf K M O S l z).getD i ByteArray.empty = sumB (knownTo l (rowOf K M O S) z i) (rowOf K M O S i) z := by
  unfold sparesOf
  rw [List.getD_eq_getElem?_getD, List.getElem?_drop, ← List.getD_eq_getElem?_getD, knownTo_get l _ z (i + 1) M _ (by omega) (by omega), knownTo_last]

end Go.Proofs.YtnjaofkieajnlaaGreat

/- A piece with one bit turned is another piece of the same size. -/
namespace Go.Proofs.YtnjaofkieajnlaaGreat
open Go.RowKit

/-- The bytes of a text, laid into a row of the call's own. -/
theorem bytes_run (s : ByteArray) (w : World) : ∃ cap W1, (convert 9 106 (.string s)).run Tryz.prog w = .ok (.slice (some ⟨w.heap.size, 0, none⟩) s.size cap) W1 ∧
    (∀ j, j < s.size → W1.cell? ⟨w.heap.size, j, none⟩ = some (.int .u8 ((byteAt s j).toNat : Int))) ∧ (∀ j, j < s.size → W1.frozen? ⟨w.heap.size, j, none⟩ = false) ∧ Below w.heap.size w W1 ∧ w.heap.size < W1.heap.size := by
  have h := run_bytes_of_string (P := Tryz.prog) w 9 106 5 s Tryz.underlying9 Tryz.underlying106 Tryz.underlying5
  refine ⟨_, _, h, fun j hj => ?_, fun j hj => ?_, (Below.refl _ _).drew.alloc (Nat.le_refl _) _, by simp⟩
  · have hd : w.drew.heap.size = w.heap.size := rfl
    rw [← hd, World.cell?_alloc_mark]
    unfold bytesRow
    rw [Array.getElem?_append_left (by simpa using hj)]
    have hj2 : j < s.data.size := hj
    rw [Array.getElem?_map, Array.getElem?_eq_getElem hj2]
    have := byteAt_get s j hj
    rw [← this]
    rfl
  · have hd : w.drew.heap.size = w.heap.size := rfl
    rw [← hd, World.frozen?_alloc_mark]
    have : j < (bytesRow s (grownCap w s.size 0 5)).size := by
      unfold bytesRow
      rw [Array.size_append, Array.size_map]
      have : s.data.size = s.size := rfl
      omega
    simp
    omega

/-- A text with another byte at m. -/
def setByte (p : ByteArray) (m : Nat) (x : UInt8) : ByteArray := ⟨(p.data.toList.set m x).toArray⟩

theorem setByte_size (p : ByteArray) (m : Nat) (x : UInt8) : (setByte p m x).size = p.size := by
  show (p.data.toList.set m x).toArray.size = p.size
  rw [List.size_toArray, List.length_set]; rfl

theorem byteAt_setByte (p : ByteArray) (m : Nat) (x : UInt8) (hm : m < p.size) (i : Nat) : byteAt (setByte p m x) i = if i = m then x else byteAt p i := by
  unfold byteAt setByte
  have hm2 : m < p.data.toList.length := by simpa using hm
  simp only [List.getD_eq_getElem?_getD]
  by_cases e : i = m
  · subst e
    rw [if_pos rfl]
    show ((p.data.toList.set i x).toArray.toList)[i]?.getD 0 = x
    rw [List.toList_toArray, List.getElem?_set_self hm2]; rfl
  · rw [if_neg e]
    show ((p.data.toList.set m x).toArray.toList)[i]?.getD 0 = _
    rw [List.toList_toArray, List.getElem?_set_ne (by omega)]

theorem setByte_ne (p : ByteArray) (m : Nat) (x : UInt8) (hm : m < p.size) (hx : x ≠ byteAt p m) : setByte p m x ≠ p := by
  intro e
  have h := byteAt_setByte p m x hm m
  rw [e, if_pos rfl] at h
  exact hx h.symm

theorem pow_u8 (b : Nat) (hb : b < 8) : (2 : Int) ^ b % 256 = (((1 : UInt8) <<< UInt8.ofNat b).toNat : Int) ∧ (1 : UInt8) <<< UInt8.ofNat b ≠ 0 := by
  have h : b = 0 ∨ b = 1 ∨ b = 2 ∨ b = 3 ∨ b = 4 ∨ b = 5 ∨ b = 6 ∨ b = 7 := by omega
  rcases h with rfl | rfl | rfl | rfl | rfl | rfl | rfl | rfl <;> exact ⟨by decide, by decide⟩

theorem xor_other (a y : UInt8) (hy : y ≠ 0) : a ^^^ y ≠ a := by
  intro e
  apply hy
  have h : a ^^^ (a ^^^ y) = a ^^^ a := by rw [e]
  rwa [← UInt8.xor_assoc, UInt8.xor_self, UInt8.zero_xor] at h

end Go.Proofs.YtnjaofkieajnlaaGreat

/- The program's box in memory; how known sums are taken away from a piece. -/
namespace Go.Proofs.YtnjaofkieajnlaaGreat
open Go.RowKit

/-- The cells of the program's box. -/
def boxCell (K n z : Nat) (of : Nat → Nat) (kn : Kn) (i : Nat) : Value :=
  if i = 0 then .int .i64 (K : Int) else if i = 1 then .int .i64 (n : Int) else if i = 2 then .int .i64 (z : Int) else if i < 43 then .int .i64 (of (i - 3) : Int) else if (i - 43) % 2 = 0 then .int .i64 ((kn ((i - 43) / 2)).1 : Int) else .string (kn ((i - 43) / 2)).2

/-- The program's box, as its block holds it. -/
def BoxAt (w : World) (p K n z : Nat) (of : Nat → Nat) (kn : Kn) : Prop := w.rowIs p 110 83 (boxCell K n z of kn)

namespace BoxAt
variable {w w' : World} {p K n z : Nat} {of : Nat → Nat} {kn : Kn}

theorem lt (h : BoxAt w p K n z of kn) : p < w.heap.size := World.rowIs.lt h

theorem block (h : BoxAt w p K n z of kn) (hb : w'.heap[p]? = w.heap[p]?) : BoxAt w' p K n z of kn := World.rowIs.of_block h hb

theorem on (h : BoxAt w p K n z of kn) {m : Nat} (hm : w.heap.size ≤ m) (hb : Below m w w') : BoxAt w' p K n z of kn := h.block (hb.block p (Nat.lt_of_lt_of_le h.lt hm))

theorem head (h : BoxAt w p K n z of kn) : w.cell? ⟨p, 0, none⟩ = some (.int .i64 (K : Int)) ∧ w.cell? ⟨p, 1, none⟩ = some (.int .i64 (n : Int)) ∧ w.cell? ⟨p, 2, none⟩ = some (.int .i64 (z : Int)) :=
  ⟨World.rowIs.cell h (i := 0) (by omega), World.rowIs.cell h (i := 1) (by omega), World.rowIs.cell h (i := 2) (by omega)⟩

theorem of_ (h : BoxAt w p K n z of kn) {i : Nat} (hi : i < 40) : w.cell? ⟨p, 3 + i, none⟩ = some (.int .i64 (of i : Int)) := by
  have := World.rowIs.cell h (i := 3 + i) (by omega)
  unfold boxCell at this
  rw [if_neg (by omega), if_neg (by omega), if_neg (by omega), if_pos (by omega), show 3 + i - 3 = i from by omega] at this
  exact this

theorem known (h : BoxAt w p K n z of kn) {j : Nat} (hj : j < 20) : w.cell? ⟨p, 43 + j * 2, none⟩ = some (.int .i64 ((kn j).1 : Int)) ∧ w.cell? ⟨p, 43 + j * 2 + 1, none⟩ = some (.string (kn j).2) := by
  have h1 := World.rowIs.cell h (i := 43 + j * 2) (by omega)
  have h2 := World.rowIs.cell h (i := 43 + j * 2 + 1) (by omega)
  unfold boxCell at h1 h2
  rw [if_neg (by omega), if_neg (by omega), if_neg (by omega), if_neg (by omega), if_pos (by omega), show (43 + j * 2 - 43) / 2 = j from by omega] at h1
  rw [if_neg (by omega), if_neg (by omega), if_neg (by omega), if_neg (by omega), if_neg (by omega), show (43 + j * 2 + 1 - 43) / 2 = j from by omega] at h2
  exact ⟨h1, h2⟩

theorem frozen (h : BoxAt w p K n z of kn) (i : Nat) : w.frozen? ⟨p, i, none⟩ = false := World.rowIs.frozen h i

/-- A sum is stored. -/
theorem store (h : BoxAt w p K n z of kn) {t : Nat} (f : Fct) : BoxAt ((w.setCell ⟨p, 43 + t * 2, none⟩ (.int .i64 (f.1 : Int))).setCell ⟨p, 43 + t * 2 + 1, none⟩ (.string f.2)) p K n z of (fun j => if j = t then f else kn j) := by
  refine ((World.rowIs.set h (43 + t * 2) (.int .i64 (f.1 : Int))).set (43 + t * 2 + 1) (.string f.2)).congr (fun i hi => ?_)
  unfold boxCell
  by_cases e : i = 43 + t * 2 + 1
  · subst e
    rw [if_pos rfl, if_neg (by omega), if_neg (by omega), if_neg (by omega), if_neg (by omega), if_neg (by omega), show (43 + t * 2 + 1 - 43) / 2 = t from by omega]; simp only [if_true]
  · rw [if_neg e]
    by_cases e2 : i = 43 + t * 2
    · subst e2
      rw [if_pos rfl, if_neg (by omega), if_neg (by omega), if_neg (by omega), if_neg (by omega), if_pos (by omega), show (43 + t * 2 - 43) / 2 = t from by omega]; simp only [if_true]
    · rw [if_neg e2]
      by_cases e3 : i < 43
      · by_cases h0 : i = 0
        · rw [if_pos h0, if_pos h0]
        · rw [if_neg h0, if_neg h0]
          by_cases h1 : i = 1
          · rw [if_pos h1, if_pos h1]
          · rw [if_neg h1, if_neg h1]
            by_cases h2 : i = 2
            · rw [if_pos h2, if_pos h2]
            · rw [if_neg h2, if_neg h2, if_pos e3, if_pos e3]
      · have hne : (i - 43) / 2 ≠ t := by omega
        simp only [if_neg hne]

end BoxAt

/-- Bytes in a row of the call's own. -/
structure BytesAt (w : World) (g z : Nat) (f : Nat → UInt8) : Prop where
  lt : g < w.heap.size
  cell : ∀ j, j < z → w.cell? ⟨g, j, none⟩ = some (.int .u8 ((f j).toNat : Int))
  frozen : ∀ j, j < z → w.frozen? ⟨g, j, none⟩ = false

theorem BytesAt.on {w w' : World} {g z m : Nat} {f : Nat → UInt8} (h : BytesAt w g z f) (hm : w.heap.size ≤ m) (hb : Below m w w') : BytesAt w' g z f :=
  ⟨Nat.lt_of_lt_of_le h.lt hb.size, fun j hj => by rw [hb.cell (p := ⟨g, j, none⟩) (Nat.lt_of_lt_of_le h.lt hm)]; exact h.cell j hj, fun j hj => by rw [hb.frozen (p := ⟨g, j, none⟩) (Nat.lt_of_lt_of_le h.lt hm)]; exact h.frozen j hj⟩

theorem BytesAt.congr {w : World} {g z : Nat} {f f' : Nat → UInt8} (h : BytesAt w g z f) (hf : ∀ j, j < z → f j = f' j) : BytesAt w g z f' :=
  ⟨h.lt, fun j hj => by rw [← hf j hj]; exact h.cell j hj, h.frozen⟩

theorem BytesAt.step {w : World} {g z : Nat} {t p : ByteArray} {k : Nat} (h : BytesAt w g z (halfByte t p k)) (hk : k < z) :
    BytesAt (w.setCell ⟨g, k, none⟩ (.int .u8 (((byteAt t k).toNat ^^^ (byteAt p k).toNat : Nat) : Int))) g z (halfByte t p (k + 1)) := by
  refine ⟨by have := h.lt; simp [World.setCell]; exact this, fun j hj => ?_, fun j hj => by rw [World.frozen?_setCell]; exact h.frozen j hj⟩
  by_cases e : j = k
  · subst e
    rw [World.cell?_setCell_same w _ _ (h.cell j hj), ← toNat_xor]
    simp [halfByte]
  · rw [World.cell?_setCell_other w _ _ _ (fun x => e (congrArg Addr.off x).symm), h.cell j hj]
    unfold halfByte
    by_cases l : j < k
    · rw [if_pos l, if_pos (show j < k + 1 from by omega)]
    · rw [if_neg l, if_neg (show ¬ j < k + 1 from by omega)]

end Go.Proofs.YtnjaofkieajnlaaGreat
