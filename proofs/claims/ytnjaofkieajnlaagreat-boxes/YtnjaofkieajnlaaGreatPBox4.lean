/- The program's dataOf: of which data each piece is the sum. -/
import Derived.Test.YtnjaofkieajnlaaGreatPBox3
import Derived.Test.YtnjaofkieajnlaaGreatSameRows
namespace Go.Proofs.YtnjaofkieajnlaaGreat
open Go.RowKit

/-- A table of forty numbers, in block g. -/
abbrev TableAt (w : World) (g : Nat) (T : Nat → Nat) : Prop := w.rowIs g 80 40 (fun i => .int .i64 (T i : Int))

theorem table_new (w : World) : TableAt (w.alloc (.cells (Array.replicate 40 (.int .i64 0)) 80)) w.heap.size (fun _ => 0) :=
  ⟨_, heap_alloc_new w _, by simp, fun i hi => by simp [hi]⟩

theorem Tryz.sizeTable : (Tryz.prog.info? 80).map (·.size) = some 40 := by kernel_rfl

/-- The units as far as j. -/
def unitTab (j i : Nat) : Nat := if i < j then 2 ^ i else 0

theorem TableAt.unit {w : World} {g j : Nat} (h : TableAt w g (unitTab j)) : TableAt (w.setCell ⟨g, j, none⟩ (.int .i64 ((2 ^ j : Nat) : Int))) g (unitTab (j + 1)) := by
  refine (World.rowIs.set h j _).congr (fun i _ => ?_)
  by_cases e : i = j
  · subst e; rw [if_pos rfl]; unfold unitTab; rw [if_pos (by omega)]
  · rw [if_neg e]
    unfold unitTab
    by_cases l : i < j
    · rw [if_pos l, if_pos (by omega)]
    · rw [if_neg l, if_neg (by omega)]

/-- The table while row i is worked out: so far the sum at 'last' is b. -/
def midTab (T : Nat → Nat) (last b j : Nat) : Nat := if j = last then b else T j

theorem TableAt.mid {w : World} {g last b b' : Nat} {T : Nat → Nat} (h : TableAt w g (midTab T last b)) : TableAt (w.setCell ⟨g, last, none⟩ (.int .i64 (b' : Int))) g (midTab T last b') := by
  refine (World.rowIs.set h last _).congr (fun i _ => ?_)
  unfold midTab
  by_cases e : i = last
  · rw [if_pos e, if_pos e]
  · rw [if_neg e, if_neg e, if_neg e]

theorem table_one {cs : Array Value} {T : Nat → Nat} (hs : cs.size = 40) (h : ∀ i, i < 40 → cs[i]? = some (.int .i64 (T i : Int))) : cs.all (·.oneCell') = true := by
  rw [Array.all_eq_true_iff_forall_mem]
  intro v hv
  obtain ⟨i, hi, rfl⟩ := Array.mem_iff_getElem.1 hv
  have := h i (by omega)
  rw [Array.getElem?_eq_getElem hi] at this
  simp at this
  rw [this]; rfl

set_option maxRecDepth 100000 in
set_option maxHeartbeats 4000000 in
theorem dataOf_any (K M O S g base : Nat) (rv : Nat → Value) (w : World) (hK : 1 ≤ K ∧ K ≤ 20) (hM : 1 ≤ M ∧ M ≤ 20) (hrows : RowsAt w base g M rv (rowOf K M O S)) :
    Calls Tryz.prog 85 #[.int .i64 (K : Int), .slice (some ⟨g, 0, none⟩) M M] w fun e w' => ∃ cs, e = .returned (.agg cs) ∧ cs.size = 40 ∧ (∀ i, i < 40 → cs[i]? = some (.int .i64 (ofs K M O S i : Int))) ∧ Below w.heap.size w w' := by
  have hofs : ofs K M O S = ofTo K M O S M := rfl
  go_enter Tryz.func85, Tryz.ntmps85
  go_wp2_with fail
  go_loopw [6] (fun jv wr => ∃ j : Nat, j ≤ K ∧ jv = .int .i64 (j : Int) ∧ TableAt wr w.heap.size (fun _ => 0) ∧ TableAt wr (w.heap.size + 1) (unitTab j) ∧ Below w.heap.size w wr) (fun jv _ => K - (intOf jv).toNat)
  case atStart =>
    have h2 := table_new (w.alloc (.cells (Array.replicate 40 (.int .i64 0)) 80))
    rw [World.size_alloc] at h2
    exact ⟨0, Nat.zero_le _, rfl, World.rowIs.alloc (table_new w) _, World.rowIs.congr h2 (fun i _ => by simp [unitTab]), ((Below.refl _ _).alloc (Nat.le_refl _) _).alloc (by simp) _⟩
  case round =>
    obtain ⟨j, hj, rfl, hres, htab, hbel⟩ := hrel
    by_cases hlt : j < K
    · have hc := World.rowIs.cell htab (i := j) (by omega)
      have hf := World.rowIs.frozen htab j
      have hnx := htab.unit
      have hr2 := World.rowIs.setOther hres (a := ⟨w.heap.size + 1, j, none⟩) (by show w.heap.size ≠ w.heap.size + 1; omega) (.int .i64 ((2 ^ j : Nat) : Int))
      have hb2 := hbel.setCell (p := ⟨w.heap.size + 1, j, none⟩) (by show w.heap.size ≤ w.heap.size + 1; omega) (.int .i64 ((2 ^ j : Nat) : Int))
      obtain ⟨s1, s2⟩ := shl_small j (by omega)
      rw [← s1] at hnx hr2 hb2
      clear htab hres s1 s2 hbel
      go_wp2_with fail
      go_roundw
      case rel => exact ⟨j + 1, by omega, by go_num, hr2, hnx, hb2⟩
      case measure => simp [intOf]; omega
    · have hjK : j = K := by omega
      subst hjK
      have htab0 : TableAt wr (w.heap.size + 1) (ofTo j M O S 0) := htab
      clear htab
      obtain ⟨W, rfl⟩ : ∃ W, W = wr := ⟨_, rfl⟩
      go_wp2_with fail
      go_loopw [23] (fun iv wr => ∃ i : Nat, i ≤ M ∧ iv = .int .i64 (i : Int) ∧ TableAt wr w.heap.size (fun _ => 0) ∧ TableAt wr (w.heap.size + 1) (ofTo j M O S i) ∧ Below w.heap.size w wr) (fun iv _ => M - (intOf iv).toNat)
      case atStart => exact ⟨0, Nat.zero_le _, rfl, hres, htab0, hbel⟩
      case round =>
        clear htab0 hres hbel
        obtain ⟨i, hi, rfl, hres, htab, hbel⟩ := hrel
        by_cases hiM : i < M
        · have hr := hrows.below hbel
          have hcell := hr.cell hiM
          obtain ⟨ra, rcap, hrv, hrc⟩ := owns_view (hrows.own i hiM)
          rw [hrv] at hcell
          have hrl := rowOf_len j M O S i
          have hrlt := rowOf_lt j M O S i
          have i1 : (0 : Int) ≤ (i : Int) := by omega
          have i2 : (i : Int) < (M : Int) := by omega
          have htab0 : TableAt wr (w.heap.size + 1) (midTab (ofTo j M O S i) (j + i) (ofRow (ofTo j M O S i) (j + i) ((rowOf j M O S i).take 0))) := World.rowIs.congr htab (fun n _ => by
            show Value.int .i64 _ = Value.int .i64 _
            unfold midTab
            by_cases e : n = j + i
            · rw [if_pos e, e, ofTo_above j M O S i (j + i) (Nat.le_refl _)]; rfl
            · rw [if_neg e])
          have hnext : ofTo j M O S (i + 1) = midTab (ofTo j M O S i) (j + i) (ofRow (ofTo j M O S i) (j + i) (rowOf j M O S i)) := rfl
          have Hnext := hide hnext
          have hTlt : ∀ n, ofTo j M O S i n < 2 ^ j := fun n => ofTo_lt j M O S i n
          have hj20 : 2 ^ j ≤ 2 ^ 20 := Nat.pow_le_pow_right (by omega) hK.2
          clear htab hnext hr
          generalize hrow : rowOf j M O S i = row at *
          generalize hT : ofTo j M O S i = T at *
          go_wp2_with fail
          clear hcell
          go_loopw [33] (fun kv wr => ∃ k : Nat, k ≤ row.length ∧ kv = .int .i64 (k : Int) ∧ TableAt wr w.heap.size (fun _ => 0) ∧ TableAt wr (w.heap.size + 1) (midTab T (j + i) (ofRow T (j + i) (row.take k))) ∧ Below w.heap.size w wr) (fun kv _ => row.length - (intOf kv).toNat)
          case atStart => exact ⟨0, Nat.zero_le _, rfl, hres, htab0, hbel⟩
          case round =>
            clear htab0 hres hbel
            obtain ⟨k, hk, rfl, hres, htab, hbel⟩ := hrel
            by_cases hkl : k < row.length
            · obtain ⟨q, rfl, hqc⟩ := hrc k hkl
              have hqc2 := (hbel.cell (p := ⟨q, k, none⟩) (block_lt_of_cell hqc)).trans hqc
              have htk := ofRow_take T (j + i) row k hkl
              have hnm : row.getD k 0 ≤ j + i := hrlt _ (by rw [List.getD_eq_getElem?_getD, List.getElem?_eq_getElem hkl]; exact List.getElem_mem hkl)
              have hbl : ofRow T (j + i) (row.take k) < 2 ^ j := ofRow_lt hTlt
              have k1 : (0 : Int) ≤ (k : Int) := by omega
              have k2 : (k : Int) < (row.length : Int) := by omega
              clear hqc
              generalize row.getD k 0 = n at *
              generalize ofRow T (j + i) (row.take k) = b at *
              by_cases hnl : n < j + i
              · rw [if_pos hnl] at htk
                have Htk := hide htk
                have cn := World.rowIs.cell htab (i := n) (by omega)
                have cl := World.rowIs.cell htab (i := j + i) (by omega)
                have fl := World.rowIs.frozen htab (j + i)
                have hTn := hTlt n
                simp only [midTab, if_neg (show ¬ n = j + i from by omega), if_true] at cn cl
                have hxx := i64_xor_nat b (T n) (by omega) (by omega)
                have hnx := htab.mid (b' := b ^^^ T n)
                have hr2 := World.rowIs.setOther hres (a := ⟨w.heap.size + 1, j + i, none⟩) (by show w.heap.size ≠ w.heap.size + 1; omega) (.int .i64 ((b ^^^ T n : Nat) : Int))
                have hb2 := (hbel.setCell (p := ⟨w.heap.size + 1, j + i, none⟩) (by show w.heap.size ≤ w.heap.size + 1; omega) (.int .i64 ((b ^^^ T n : Nat) : Int))).drew
                have n1 : (0 : Int) ≤ (n : Int) := by omega
                have n2 : (n : Int) < 40 := by omega
                have n3 : (n : Int) < (j : Int) + (i : Int) := by omega
                have l1 : (0 : Int) ≤ (j : Int) + (i : Int) := by omega
                have l2 : (j : Int) + (i : Int) < 40 := by omega
                clear htab hres hbel htk
                go_wp2_with fail
                go_region
                all_goals
                  clear cn cl fl hxx hqc2
                  go_wp2
                  go_roundw
                  case rel => exact ⟨k + 1, by omega, by go_num, hr2, by rw [Htk.out]; exact hnx, hb2⟩
                  case measure => simp [intOf]; omega
              · rw [if_neg hnl] at htk
                have Htk := hide htk
                have n3 : ¬ (n : Int) < (j : Int) + (i : Int) := by omega
                clear htk
                go_wp2_with fail
                go_roundw
                case rel => exact ⟨k + 1, by omega, by go_num, hres, by rw [Htk.out]; exact htab, hbel⟩
                case measure => simp [intOf]; omega
            · have hkk : row.take k = row := List.take_of_length_le (by omega)
              rw [hkk, ← Hnext.out] at htab
              go_wp2_with fail
              go_roundw
              case rel => exact ⟨i + 1, by omega, by go_num, hres, htab, hbel⟩
              case measure => simp [intOf]; omega
        · have hiM2 : i = M := by omega
          subst hiM2
          obtain ⟨cs, hblk, hsz, hcs⟩ := htab
          obtain ⟨cs0, hblk0, hsz0, _⟩ := hres
          have hone := table_one hsz hcs
          have hfin : ∀ w', w' = wr.setRow w.heap.size cs → Below w.heap.size w w' := by
            rintro w' rfl
            exact (((Chg.of_below hbel (fun _ => False)).setRow (Or.inl (Nat.le_refl _)) cs).below (fun _ _ x => x))
          have Hcs := hide hcs
          clear hcs hrows hbel
          go_wp2_with (first | (refine wpList_load_row rfl 80 (.tmp 5) rfl (w.heap.size + 1) rfl 80 cs (0, 0) _ hblk Tryz.underlying80 rfl (by rw [hsz]; exact Tryz.sizeTable) ?_) | (refine wpList_store_row rfl 80 (.tmp 4) (.tmp 50) rfl w.heap.size cs rfl rfl 80 cs0 hblk0 (by rw [hsz]; exact Tryz.sizeTable) (by omega) hone ?_))
          refine bodyPost_ret (v := .agg cs) (results_cell_row Tryz.results85 _ _ w.heap.size 80 cs (0, 0) _ rfl (setRow_heap _ _ _ _ _ _ hblk0) Tryz.underlying80 rfl (by rw [hsz]; exact Tryz.sizeTable)) rfl ⟨cs, rfl, hsz, Hcs.out, hfin _ rfl⟩

end Go.Proofs.YtnjaofkieajnlaaGreat
