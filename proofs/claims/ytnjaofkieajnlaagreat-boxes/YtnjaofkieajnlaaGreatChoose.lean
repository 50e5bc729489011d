/- How the program chooses the rows of one piece: freeAt and choose. -/
import Derived.Test.YtnjaofkieajnlaaGreatSmall
import Derived.Test.YtnjaofkieajnlaaGreatFrame
import Derived.Test.YtnjaofkieajnlaaGreatMaths
import Derived.Deep.MidRow
namespace Go.Proofs.YtnjaofkieajnlaaGreat
open Go.RowKit

/-- Twenty marks, as an array's cells. -/
structure MarksAt (cs : Array Value) (ch : Nat → Bool) : Prop where
  size : cs.size = 20
  at_ : ∀ i, i < 20 → cs[i]? = some (.bool (ch i))

theorem MarksAt.one {cs : Array Value} {ch : Nat → Bool} (h : MarksAt cs ch) : cs.all (·.oneCell') = true := by
  rw [Array.all_eq_true_iff_forall_mem]
  intro v hv
  obtain ⟨i, hi, rfl⟩ := Array.mem_iff_getElem.1 hv
  have := h.at_ i (by have := h.size; omega)
  rw [Array.getElem?_eq_getElem hi] at this
  simp at this
  rw [this]; rfl

set_option maxRecDepth 100000 in
set_option maxHeartbeats 1000000 in
theorem freeAt_any (cs : Array Value) (ch : Nat → Bool) (d : Nat) (w : World) (hcs : MarksAt cs ch) (hd : d < (opens ch 20).length) :
    Calls Tryz.prog 124 #[.agg cs, .int .i64 (d : Int)] w fun e w' => (∃ k : Nat, e = .returned (.int .i64 (k : Int)) ∧ ch k = false ∧ (opens ch k).length = d ∧ k < 20) ∧ Below w.heap.size w w' := by
  have hd20 : d < 20 := Nat.lt_of_lt_of_le hd (opens_len_le ch 20)
  obtain ⟨hsz, hat⟩ := hcs
  have hcell : ∀ k, k < 20 → (w.alloc (.cells cs 162)).cell? ⟨w.heap.size, k, none⟩ = some (.bool (ch k)) := fun k hk => by
    rw [cell_of_row _ _ _ _ _ _ (heap_alloc_new w _)]; exact hat k hk
  clear hat
  go_enter Tryz.func124, Tryz.ntmps124
  go_wp2
  go_loop [1, 6] (fun dd i => ∃ k : Nat, k ≤ 20 ∧ i = .int .i64 k ∧ dd = .int .i64 ((d - (opens ch k).length : Nat) : Int) ∧ (opens ch k).length ≤ d) (fun _ i => 20 - (intOf i).toNat)
  case atStart => exact ⟨0, by omega, rfl, by simp [opens_zero], by simp [opens_zero]⟩
  case round =>
    obtain ⟨k, hk, rfl, rfl, hle⟩ := hrel
    have hk20 : k < 20 := by
      rcases Nat.lt_or_ge k 20 with h | h
      · exact h
      · have := opens_len_mono ch 20 k h; omega
    have hc := hcell k hk20
    have hs := opens_len_succ ch k
    clear hcell
    generalize hL : (opens ch k).length = L at *
    have HL : Hid ((opens ch k).length = L) := hL
    clear hL
    have HS : Hid ((opens ch (k + 1)).length = L + if ch k = true then 0 else 1) := hs
    clear hs
    cases hch : ch k
    · rw [hch] at hc
      by_cases he : d = L
      · have HE : Hid (d = L) := he
        have h0 : (((d - L : Nat) : Int) == 0) = true := by simp; omega
        clear he
        go_wp2
        go_ret
        exact ⟨⟨k, rfl, hch, by rw [HL.out, HE.out], hk20⟩, (Below.refl _ _).alloc (Nat.le_refl _) _⟩
      · have h0 : (((d - L : Nat) : Int) == 0) = false := by simp; omega
        go_wp2
        go_round
        case rel => exact ⟨k + 1, by omega, by go_num, by rw [HS.out, hch]; simp; omega, by rw [HS.out, hch]; simp; omega⟩
        case measure => simp [intOf]; omega
    · rw [hch] at hc
      go_wp2
      go_round
      case rel => exact ⟨k + 1, by omega, by go_num, by rw [HS.out, hch]; simp, by rw [HS.out, hch]; simp; omega⟩
      case measure => simp [intOf]; omega

theorem below_nat (b x n : Nat) (w : World) (hx : x < 65537) (hn : 1 ≤ n ∧ n ≤ 20) (hb : w.heap[b]? = some (.cells #[.int .i64 (x : Int)] 172 (0, 0))) :
    Calls Tryz.prog 123 #[.pointer (some ⟨b, 0, none⟩), .int .i64 (n : Int)] w fun e w' => e = .returned (.int .i64 ((nxt x % n : Nat) : Int)) ∧ w' = w.setCell ⟨b, 0, none⟩ (.int .i64 (nxt x : Int)) := by
  have h := below_any b (x : Int) (n : Int) w (by omega) (by omega) (by rw [cell_of_row _ _ _ _ _ _ hb]; rfl) (frozen_of_row _ _ _ _ _ hb)
  have e1 : (75 * (x : Int) + 74) % 65537 = ((nxt x : Nat) : Int) := by unfold nxt; omega
  have e2 : ((nxt x : Nat) : Int) % (n : Int) = ((nxt x % n : Nat) : Int) := by omega
  rw [e1, e2] at h
  exact h

/-- Where choose stands behind n draws: the drawer's block b, the chosen rows' block c. -/
structure ChooseAt (w0 wr : World) (b c M x n : Nat) : Prop where
  drawer : wr.heap[b]? = some (.cells #[.int .i64 ((drawn M x n).1 : Int)] 172 (0, 0))
  marks : wr.rowIs c 162 20 (fun i => .bool ((drawn M x n).2 i))
  chg : Chg (fun k => k = b) w0 wr

theorem ChooseAt.step {w0 wr w2 : World} {b c M x n k : Nat} (h : ChooseAt w0 wr b c M x n) (hb : b < w0.heap.size) (hc : w0.heap.size ≤ c) (hn : n < M)
    (hk : (drawn M x n).2 k = false) (hl : (opens (drawn M x n).2 k).length = nxt (drawn M x n).1 % (M - n))
    (h2 : Chg (fun _ => False) (wr.setCell ⟨b, 0, none⟩ (.int .i64 (nxt (drawn M x n).1 : Int))) w2) :
    ChooseAt w0 (w2.setCell ⟨c, k, none⟩ (.bool true)) b c M x (n + 1) := by
  have hlt : nxt (drawn M x n).1 % (M - n) < (opens (drawn M x n).2 M).length := by rw [drawn_open M x n (by omega)]; exact Nat.mod_lt _ (by omega)
  obtain ⟨hp, hkM⟩ := pickOpen_eq hk hl hlt
  have hbr : b < wr.heap.size := Nat.lt_of_lt_of_le hb h.chg.size
  have hcr : c < wr.heap.size := h.marks.lt
  refine ⟨?_, ?_, ?_⟩
  · rw [heap_setCell_other _ _ _ _ (by show b ≠ c; omega), h2.block b (by simp [World.setCell]; omega) (fun x => x), heap_setCell_same wr b 0 _ _ _ h.drawer]
    rfl
  · have h1 := (h.marks.setOther (a := ⟨b, 0, none⟩) (by show c ≠ b; omega) (.int .i64 (nxt (drawn M x n).1 : Int)))
    have h3 := (h1.of_block (h2.block c h1.lt (fun x => x))).set k (.bool true)
    refine h3.congr (fun i _ => ?_)
    simp only [drawn, hp]
    by_cases e : i = k
    · subst e; simp
    · have : (i == k) = false := by simp [e]
      simp [e, this]
  · exact ((h.chg.setCell (a := ⟨b, 0, none⟩) (Or.inr rfl) _).trans h2 (fun _ _ f => f.elim)).setCell (Or.inl hc) _

theorem marks_new (w : World) : (w.alloc (.cells (Array.replicate 20 (.bool false)) 162)).rowIs w.heap.size 162 20 (fun _ => .bool false) :=
  ⟨_, heap_alloc_new w _, by simp, fun i hi => by simp [hi]⟩

theorem Tryz.sizeMarks : (Tryz.prog.info? 162).map (·.size) = some 20 := by kernel_rfl

set_option maxRecDepth 100000 in
set_option maxHeartbeats 1000000 in
theorem choose_any (b x M O : Nat) (w : World) (hx : x < 65537) (hM : M ≤ 20) (hO : O ≤ M) (hb : w.heap[b]? = some (.cells #[.int .i64 (x : Int)] 172 (0, 0))) :
    Calls Tryz.prog 113 #[.pointer (some ⟨b, 0, none⟩), .int .i64 (M : Int), .int .i64 (O : Int)] w fun e w' => ∃ cs, e = .returned (.agg cs) ∧ MarksAt cs (drawn M x O).2 ∧
      w'.heap[b]? = some (.cells #[.int .i64 ((drawn M x O).1 : Int)] 172 (0, 0)) ∧ Chg (fun k => k = b) w w' := by
  have hbl : b < w.heap.size := (Array.getElem?_eq_some_iff.1 hb).1
  go_enter Tryz.func113, Tryz.ntmps113
  go_wp2
  go_loopw [8] (fun i wr => ∃ n : Nat, n ≤ O ∧ i = .int .i64 ((M - n : Nat) : Int) ∧ ChooseAt w wr b (w.heap.size + 1) M x n ∧ wr.rowIs w.heap.size 162 20 (fun _ => .bool false)) (fun i _ => (intOf i).toNat)
  case atStart =>
    refine ⟨0, Nat.zero_le _, rfl, ⟨?_, ?_, ?_⟩, ?_⟩
    · rw [Below.heap_alloc _ _ _ (by simp; omega), Below.heap_alloc _ _ _ (by omega)]; exact hb
    · have h := marks_new (w.alloc (.cells (Array.replicate 20 (.bool false)) 162))
      simp only [World.size_alloc] at h
      exact h
    · exact ((Chg.refl _ _).alloc _).alloc _
    · exact World.rowIs.alloc (marks_new w) _
  case round =>
    obtain ⟨n, hn, rfl, hat, hres⟩ := hrel
    have hbr : b < wr.heap.size := Nat.lt_of_lt_of_le hbl hat.chg.size
    have hcr : w.heap.size + 1 < wr.heap.size := hat.marks.lt
    by_cases hlt : n < O
    · go_wp2_with fail
      refine (below_nat b _ _ _ (drawn_lt M x n hx) (by omega) hat.drawer).mono ?_
      rintro e w' ⟨rfl, rfl⟩
      have hnx : nxt (drawn M x n).1 = (drawn M x (n + 1)).1 := rfl
      obtain ⟨cs, hblk, hsz, hcs⟩ := hat.marks.setOther (a := ⟨b, 0, none⟩) (by show w.heap.size + 1 ≠ b; omega) (.int .i64 (nxt (drawn M x n).1 : Int))
      have hmk : MarksAt cs (drawn M x n).2 := ⟨hsz, hcs⟩
      have hdl : nxt (drawn M x n).1 % (M - n) < (opens (drawn M x n).2 M).length := by rw [drawn_open M x n (by omega)]; exact Nat.mod_lt _ (by omega)
      have hd20 : nxt (drawn M x n).1 % (M - n) < (opens (drawn M x n).2 20).length := Nat.lt_of_lt_of_le hdl (opens_len_mono _ _ _ hM)
      have Hnx := hide hnx
      clear hnx
      go_wp2_with (refine wpList_load_row rfl 162 (.tmp 7) rfl (w.heap.size + 1) rfl 162 cs (0, 0) _ hblk Tryz.underlying162 rfl (by rw [hsz]; exact Tryz.sizeMarks) ?_)
      refine (freeAt_any cs _ _ _ hmk hd20).mono ?_
      rintro e w2 ⟨⟨k, rfl, hkf, hkl, hk20⟩, hbel⟩
      have hcg := Chg.of_below hbel (fun _ => False)
      have hrow : w2.rowIs (w.heap.size + 1) 162 20 _ := World.rowIs.of_block ⟨cs, hblk, hsz, hcs⟩ (hcg.block _ (Array.getElem?_eq_some_iff.1 hblk).1 (fun x => x))
      have hcell := hrow.cell hk20
      have hfrz := hrow.frozen k
      have hstep := hat.step hbl (by omega) (by omega) hkf hkl hcg
      have hres1 := hres.setOther (a := ⟨b, 0, none⟩) (by show w.heap.size ≠ b; omega) (.int .i64 (nxt (drawn M x n).1 : Int))
      have hres2 := (hres1.of_block (hcg.block _ hres1.lt (fun x => x))).setOther (a := ⟨w.heap.size + 1, k, none⟩) (by show w.heap.size ≠ w.heap.size + 1; omega) (.bool true)
      clear hrow hblk hcs hsz hmk hkl hkf hdl hd20 hbel hcg hres1 Hnx
      go_wp2
      go_roundw
      case rel => exact ⟨n + 1, by omega, by go_num, hstep, hres2⟩
      case measure => simp [intOf]; omega
    · have hnO : n = O := by omega
      subst hnO
      obtain ⟨cs, hblk, hsz, hcs⟩ := hat.marks
      obtain ⟨cs0, hblk0, hsz0, _⟩ := hres
      have hmk : MarksAt cs (drawn M x n).2 := ⟨hsz, hcs⟩
      have hone := hmk.one
      clear hcs
      have hfin : ∀ w', w' = wr.setRow w.heap.size cs → MarksAt cs (drawn M x n).2 ∧ w'.heap[b]? = some (.cells #[.int .i64 ((drawn M x n).1 : Int)] 172 (0, 0)) ∧ Chg (fun k => k = b) w w' := by
        rintro w' rfl
        exact ⟨hmk, by rw [setRow_other _ _ _ _ (by omega)]; exact hat.drawer, hat.chg.setRow (Or.inl (Nat.le_refl _)) cs⟩
      go_wp2_with (first | (refine wpList_load_row rfl 162 (.tmp 7) rfl (w.heap.size + 1) rfl 162 cs (0, 0) _ hblk Tryz.underlying162 rfl (by rw [hsz]; exact Tryz.sizeMarks) ?_) | (refine wpList_store_row rfl 162 (.tmp 6) (.tmp 27) rfl w.heap.size cs rfl rfl 162 cs0 hblk0 (by rw [hsz]; exact Tryz.sizeMarks) (by omega) hone ?_))
      refine bodyPost_ret (v := .agg cs) (results_cell_row Tryz.results113 _ _ w.heap.size 162 cs (0, 0) _ rfl (setRow_heap _ _ _ _ _ _ hblk0) Tryz.underlying162 rfl (by rw [hsz]; exact Tryz.sizeMarks)) rfl ⟨cs, rfl, hfin _ rfl⟩

end Go.Proofs.YtnjaofkieajnlaaGreat
