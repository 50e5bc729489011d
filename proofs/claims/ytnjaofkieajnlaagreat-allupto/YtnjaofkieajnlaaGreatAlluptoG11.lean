/- Texts of the proof, part 12. -/
import Derived.Deep.MidRow
import Derived.Test.YtnjaofkieajnlaaGreatAlluptoG1
import Derived.Test.YtnjaofkieajnlaaGreatAlluptoG10
import Derived.Test.YtnjaofkieajnlaaGreatAlluptoG3
import Derived.Test.YtnjaofkieajnlaaGreatAlluptoG6
import Derived.Test.YtnjaofkieajnlaaGreatAlluptoG9

/- Lists that are full of one value, and what append leaves of them; the statement's own strokes, full and fullInts. -/
namespace Go.Proofs.YtnjaofkieajnlaaGreat
open Go.RowKit

/-- A list that is full of one value. -/
def RowFull (w : World) (e : TypeId) (v : Value) (n : Nat) (u : Value) : Prop := w.ownsRow 0 e 1 v n (List.replicate n u)

theorem RowFull.blocks {w w' : World} {e : TypeId} {v : Value} {n : Nat} {u : Value} (h : RowFull w e v n u) (hb : ∀ k, v.ownBlock = some k → w'.heap[k]? = w.heap[k]?) : RowFull w' e v n u := owns_of_block h hb

theorem RowFull.lt {w : World} {e : TypeId} {v : Value} {n : Nat} {u : Value} (h : RowFull w e v n u) {k : Nat} (hk : v.ownBlock = some k) : k < w.heap.size := (World.ownsRow.lt h k hk).2

theorem RowFull.on {w w' : World} {e : TypeId} {v : Value} {n : Nat} {u : Value} (h : RowFull w e v n u) (hb : Below w.heap.size w w') : RowFull w' e v n u := h.blocks (fun k hk => hb.block k (h.lt hk))

theorem rep_take (u : Value) (cur : List Value) (n : Nat) (h : cur.take n = List.replicate n u) : ∀ j, j < n → cur[j]? = some u := fun j hj => by
  have h1 : (cur.take n)[j]? = some u := by rw [h, List.getElem?_replicate, if_pos hj]
  rwa [List.getElem?_take, if_pos hj] at h1

theorem take_rep (u : Value) (cur : List Value) (n : Nat) (h : ∀ j, j < n → cur[j]? = some u) : cur.take n = List.replicate n u := by
  apply List.ext_getElem?
  intro j
  rw [List.getElem?_take, List.getElem?_replicate]
  by_cases hj : j < n
  · rw [if_pos hj, if_pos hj, h j hj]
  · rw [if_neg hj, if_neg hj]

/-- Marks are appended to a list that is full of them: all lists that are full of them stay so. -/
theorem run_append_marks {P : Program} (w : World) (t ty e : TypeId) (i : TypeInfo) (z : Value) (bytes : Nat) (ht : P.underlying t = some (.slice e)) (hi : P.info? e = some i) (hz : i.zero = some z)
    (hsize : i.size = 1) (hby : i.bytes = bytes) (hzs : z.cells.size = 1) (v : Value) (n : Nat) (u : Value) (hu : u.oneCell' = true) (hown : RowFull w e v n u)
    (a : Addr) (m c : Nat) (hm : 0 < m) (hnews : ∀ j x, (List.replicate m u)[j]? = some x → w.cell? (a.add j) = some x) (h63 : n + m ≤ maxLen) (hbytes : (n + m) * bytes ≤ 140737488355328) :
    ∃ g cap w', (Builtin.append_ #[t, t] ty #[v, .slice (some a) m c]).run P w = .ok (.slice (some ⟨g, 0, none⟩) (n + m) cap) w' ∧ RowFull w' e (.slice (some ⟨g, 0, none⟩) (n + m) cap) (n + m) u ∧
      (∀ v2 n2, RowFull w e v2 n2 u → RowFull w' e v2 n2 u) ∧ w.grownBy w' v.ownBlock ∧ (v.ownBlock = some g ∨ g = w.heap.size) ∧ g < w'.heap.size := by
  have h1 : ∀ x ∈ List.replicate m u, x.oneCell' = true := fun x hx => by rw [List.eq_of_mem_replicate hx]; exact hu
  have hl : (List.replicate m u).length = m * 1 := by simp
  obtain ⟨g, cap, w', hr, h2, h3, h4, h5⟩ := run_append_lies (P := P) w t ty 0 e i z 1 bytes ht hi hz hsize hby hzs (by decide) v n (List.replicate n u) hown a m c (List.replicate m u) hl hnews h1 hm h63 hbytes (Nat.zero_le _) w.heap.size rfl
  rw [List.replicate_append_replicate] at h2
  refine ⟨g, cap, w', hr, h2, fun v2 n2 hv2 => ?_, h3, h4, h5⟩
  have hfar : (∀ k, v2.ownBlock = some k → v.ownBlock ≠ some k) → RowFull w' e v2 n2 u := fun hne => hv2.blocks (fun k hk => h3.block k (hv2.lt hk) (fun x => hne k hk x.symm))
  rcases hown.2 with ⟨rfl, _⟩ | ⟨g1, cap1, cur, rfl, _, hg1, hnc, hcm, hcs, htake⟩
  · exact hfar (fun k _ x => by simp [Value.ownBlock] at x)
  · by_cases hroom : n + m ≤ cap1
    · rcases hv2.2 with ⟨rfl, rfl⟩ | ⟨g2, cap2, cur2, rfl, _, hg2, hnc2, hcm2, hcs2, htake2⟩
      · exact World.ownsRow_nil _ _ _ _
      · by_cases hgg : g2 = g1
        · subst hgg
          rw [hg1] at hg2
          simp only [Option.some.injEq, Obj.cells.injEq, and_true] at hg2
          subst hg2
          have hfit : n * i.size + (List.replicate m u).length ≤ cur.size := by rw [hsize, List.length_replicate, hcs, Nat.mul_one, Nat.mul_one]; exact hroom
          have hr2 := run_append_room (P := P) w t ty e i ht hi g2 n cap1 cur hg1 a m c (List.replicate m u) (by rw [hsize]; exact hl) hnews h1 hroom hfit
          rw [hr2] at hr
          simp only [Result.ok.injEq] at hr
          obtain ⟨_, rfl⟩ := hr
          rw [hsize, Nat.mul_one, List.length_replicate] at *
          refine ⟨by simp, .inr ⟨g2, cap2, _, rfl, Nat.zero_le _, setRow_heap w g2 cur _ e _ hg1, hnc2, hcm2, ?_, ?_⟩⟩
          · simp only [List.size_toArray, List.length_append, List.length_take, List.length_drop, Array.length_toList, List.length_replicate]
            omega
          · have ha := rep_take u cur.toList n2 htake2
            have hb := rep_take u cur.toList n htake
            rw [Nat.mul_one]
            refine take_rep u _ n2 (fun j hj => ?_)
            have hsz : cur.toList.length = cur.size := Array.length_toList
            rw [List.append_assoc]
            by_cases hjn : j < n
            · rw [List.getElem?_append_left (by rw [List.length_take]; omega), List.getElem?_take, if_pos hjn]
              exact hb j hjn
            · rw [List.getElem?_append_right (by rw [List.length_take]; omega), List.length_take, show min n cur.toList.length = n by omega]
              by_cases hjm : j < n + m
              · rw [List.getElem?_append_left (by rw [List.length_replicate]; omega), List.getElem?_replicate, if_pos (by omega)]
              · rw [List.getElem?_append_right (by rw [List.length_replicate]; omega), List.length_replicate, List.getElem?_drop, show n + m + (j - n - m) = j by omega]
                exact ha j hj
        · exact hfar (fun k hk x => by simp [Value.ownBlock] at hk x; omega)
    · by_cases hsame : v2.ownBlock = some g1
      · have hb : w'.heap[g1]? = w.heap[g1]? := by
          have hlt := (Array.getElem?_eq_some_iff.1 hg1).1
          have hr2 := run_append_grow (P := P) w t ty e i z ht hi hz ⟨g1, 0, none⟩ n cap1 (List.replicate n u) (by rw [hsize]; simp) (World.ownsRow.cells hown (g := g1) rfl) a m c (List.replicate m u) (by rw [hsize]; exact hl) hnews (by omega) (by unfold maxLen at h63; omega) (growslice_fits (by omega) (by rw [hby]; exact hbytes))
          rw [hr2] at hr
          simp only [Result.ok.injEq] at hr
          obtain ⟨_, rfl⟩ := hr
          exact heap_alloc_old w.drew _ hlt
        exact hv2.blocks (fun k hk => by rw [hsame] at hk; injection hk with hk; rw [← hk]; exact hb)
      · exact hfar (fun k hk x => hsame (by simp [Value.ownBlock] at x; rw [hk, x]))

theorem wp_append_marks {P : Program} (w : World) {o : Oper} {a : Act} {K : Act → World → Prop} {Q : Exit → Act → World → Prop} (s x : Operand) (t : TypeId)
    (ho : o.op = .call { callee := .builtin .append, args := #[s, x], argTypes := #[t, t] })
    (e : TypeId) (i : TypeInfo) (z : Value) (bytes : Nat) (ht : P.underlying t = some (.slice e)) (hi : P.info? e = some i) (hz : i.zero = some z) (hsize : i.size = 1) (hby : i.bytes = bytes) (hzs : z.cells.size = 1)
    (v : Value) (n : Nat) (u : Value) (hs : a.eval s = v) (hu : u.oneCell' = true) (hown : RowFull w e v n u)
    (ad : Addr) (m c : Nat) (hm : 0 < m) (hx : a.eval x = .slice (some ad) m c) (hnews : ∀ j x, (List.replicate m u)[j]? = some x → w.cell? (ad.add j) = some x) (h63 : n + m ≤ maxLen) (hbytes : (n + m) * bytes ≤ 140737488355328)
    (h : ∀ g cap w', RowFull w' e (.slice (some ⟨g, 0, none⟩) (n + m) cap) (n + m) u → (∀ v2 n2, RowFull w e v2 n2 u → RowFull w' e v2 n2 u) → w.grownBy w' v.ownBlock → (v.ownBlock = some g ∨ g = w.heap.size) → g < w'.heap.size → K (a.put o.dst (.slice (some ⟨g, 0, none⟩) (n + m) cap)) w') : o.wp P a w K Q := by
  obtain ⟨g, cap, w', hr, h2, h3, h4, h5, h6⟩ := run_append_marks (P := P) w t o.type e i z bytes ht hi hz hsize hby hzs v n u hu hown ad m c hm hnews h63 hbytes
  unfold Oper.wp execOp
  simp only [ho, resolve, invoke, builtin, Sem.run_bind, Sem.run_pure, Result.andThen_ok, List.map_toArray, List.map_cons, List.map_nil, hs, hx, hr]
  exact h g cap w' h2 h3 h4 h5 h6

theorem wpList_append_marks {P : Program} (w : World) {ops : Array Oper} {rest : List Oper} {o : Oper} {a : Act} {Q : Exit → Act → World → Prop} (hgd : o.guard = none) (s x : Operand) (t : TypeId)
    (ho : o.op = .call { callee := .builtin .append, args := #[s, x], argTypes := #[t, t] })
    (e : TypeId) (i : TypeInfo) (z : Value) (bytes : Nat) (ht : P.underlying t = some (.slice e)) (hi : P.info? e = some i) (hz : i.zero = some z) (hsize : i.size = 1) (hby : i.bytes = bytes) (hzs : z.cells.size = 1)
    (v : Value) (n : Nat) (u : Value) (hs : a.eval s = v) (hu : u.oneCell' = true) (hown : RowFull w e v n u)
    (ad : Addr) (m c : Nat) (hm : 0 < m) (hx : a.eval x = .slice (some ad) m c) (hnews : ∀ j x, (List.replicate m u)[j]? = some x → w.cell? (ad.add j) = some x) (h63 : n + m ≤ maxLen) (hbytes : (n + m) * bytes ≤ 140737488355328)
    (h : ∀ g cap w', RowFull w' e (.slice (some ⟨g, 0, none⟩) (n + m) cap) (n + m) u → (∀ v2 n2, RowFull w e v2 n2 u → RowFull w' e v2 n2 u) → w.grownBy w' v.ownBlock → (v.ownBlock = some g ∨ g = w.heap.size) → g < w'.heap.size → wpList P ops Q rest (a.put o.dst (.slice (some ⟨g, 0, none⟩) (n + m) cap)) w') : wpList P ops Q (o :: rest) a w :=
  wpList_plain hgd fun _ hK => wp_append_marks w s x t ho e i z bytes ht hi hz hsize hby hzs v n u hs hu hown ad m c hm hx hnews h63 hbytes fun g cap w' h2 h3 h4 h5 h6 => hK _ _ (h g cap w' h2 h3 h4 h5 h6)

/-- The i-th mark. -/
def strokeGo (i : Nat) (s : ByteArray) : ByteArray := if i = 0 then s else strokeGo (i / 10) (s ++ ⟨#[UInt8.ofNat (48 + i % 10)]⟩)
termination_by i
decreasing_by omega

def stroke (i : Nat) : ByteArray := strokeGo i ⟨#[47]⟩

theorem strokeGo_zero (s : ByteArray) : strokeGo 0 s = s := by unfold strokeGo; rw [if_pos rfl]

theorem strokeGo_step (i : Nat) (s : ByteArray) (h : i ≠ 0) : strokeGo i s = strokeGo (i / 10) (s ++ ⟨#[UInt8.ofNat (48 + i % 10)]⟩) := by
  rw [strokeGo, if_neg h]

set_option maxRecDepth 100000 in
set_option maxHeartbeats 4000000 in
theorem strokes_any (i0 : Nat) (w : World) (hi0 : i0 ≤ 100000000) :
    Calls Tryz.prog 20 #[.int .i64 (i0 : Int)] w fun e w' => e = .returned (.string (stroke i0)) ∧ Below w.heap.size w w' := by
  go_enter Tryz.func20, Tryz.ntmps20
  go_wp2_with fail
  go_loopw [0, 3] (fun iv sv wr => ∃ (i : Nat) (s : ByteArray), iv = .int .i64 (i : Int) ∧ sv = .string s ∧ s.size + i ≤ i0 + 1 ∧ strokeGo i s = stroke i0 ∧ Below w.heap.size w wr) (fun iv _ _ => (intOf iv).toNat)
  case atStart => exact ⟨i0, ⟨#[47]⟩, rfl, rfl, by show 1 + i0 ≤ i0 + 1; omega, rfl, Below.refl _ _⟩
  case round =>
    obtain ⟨i, s, rfl, rfl, hs, hgo, hbr⟩ := hrel
    by_cases h0 : i = 0
    · have hfin : s = stroke i0 := by rw [← hgo, h0, strokeGo_zero]
      have HF := hide hfin
      have i0' : ¬ (0 : Int) < (i : Int) := by omega
      clear hgo hfin h0
      go_wp2_with fail
      go_ret
      exact ⟨by rw [← HF.out]; rfl, hbr⟩
    · have hst := strokeGo_step i s h0
      rw [hst] at hgo
      have hd : (i : Int) % 10 = ((i % 10 : Nat) : Int) := by omega
      have hq : (i : Int) / 10 = ((i / 10 : Nat) : Int) := by omega
      have i1 : (0 : Int) < (i : Int) := by omega
      have i2 : (i : Int) ≤ 100000001 := by omega
      have hcv := conv_block ⟨#[UInt8.ofNat (48 + i % 10)]⟩ wr.heap.size #[.int .u8 (48 + (i : Int) % 10)] (wr.alloc (.cells #[.int .u8 (48 + (i : Int) % 10)] 5)) (heap_alloc_new wr _) (by
        show _ = [Value.int .u8 ((UInt8.ofNat (48 + i % 10)).toNat : Int)].toArray
        rw [ofNat_u8 (48 + i % 10) (by omega), hd]
        simp)
      have hcv' : (convert 106 9 (.slice (some ⟨wr.heap.size, 0, none⟩) 1 1)).run Tryz.prog (wr.alloc (.cells #[.int .u8 (48 + (i : Int) % 10)] 5)) = .ok (.string ⟨#[UInt8.ofNat (48 + i % 10)]⟩) _ := hcv
      have hbs : (ByteArray.mk #[UInt8.ofNat (48 + i % 10)]).size = 1 := rfl
      have hbw := hbr.alloc hbr.size (.cells #[.int .u8 (48 + (i : Int) % 10)] 5)
      have b1 : (48 : Int) + (i : Int) % 10 < 256 := by omega
      have b2 : (0 : Int) ≤ (48 : Int) + (i : Int) % 10 := by omega
      clear hcv hst
      generalize ByteArray.mk #[UInt8.ofNat (48 + i % 10)] = B at *
      have HG := hide hgo
      have HQ := hide hq
      have Hsz := hide (show (s ++ B).size + i / 10 ≤ i0 + 1 by rw [ByteArray.size_append, hbs]; omega)
      clear hgo hq hd hbr h0
      go_wp2_with fail
      go_roundw
      case rel => exact ⟨i / 10, s ++ B, by rw [← HQ.out], rfl, Hsz.out, HG.out, hbw⟩
      case measure => simp [intOf]; omega

/-- How a full list is read. -/
theorem RowFull.read {w : World} {e : TypeId} {v : Value} {n : Nat} {u : Value} (h : RowFull w e v n u) : ∃ ao cap, v = .slice ao n cap ∧ ∀ i, i < n → ∃ q, ao = some ⟨q, 0, none⟩ ∧ q < w.heap.size ∧ w.cell? ⟨q, i, none⟩ = some u := by
  rcases h.2 with ⟨rfl, rfl⟩ | ⟨g, cap, cur, rfl, _, hg, _⟩
  · exact ⟨none, 0, rfl, fun i hi => absurd hi (Nat.not_lt_zero _)⟩
  · refine ⟨_, cap, rfl, fun i hi => ⟨g, rfl, (Array.getElem?_eq_some_iff.1 hg).1, ?_⟩⟩
    rw [World.ownsRow.cellAt h i (by omega), List.getElem?_replicate, if_pos hi]

set_option maxRecDepth 100000 in
set_option maxHeartbeats 4000000 in
theorem full_yes (v : Value) (n : Nat) (m : ByteArray) (w : World) (hn : n ≤ 1000000) (h : RowFull w 9 v n (.string m)) :
    Calls Tryz.prog 21 #[v, .string m] w fun e w' => e = .returned (.bool true) ∧ w' = w := by
  obtain ⟨ao, cap, rfl, hA⟩ := h.read
  have HA := hide hA
  have hse : (m.toList == m.toList) = true := by simp
  clear hA h
  go_enter Tryz.func21, Tryz.ntmps21
  go_wp2_with fail
  go_loop [9] (fun kv => ∃ k : Nat, k ≤ n ∧ kv = .int .i64 (k : Int)) (fun kv => n - (intOf kv).toNat)
  case atStart => exact ⟨0, Nat.zero_le _, rfl⟩
  case round =>
    obtain ⟨k, hk, rfl⟩ := hrel
    by_cases hlt : k < n
    · obtain ⟨q, rfl, _, c0⟩ := HA.out k hlt
      have i1 : (0 : Int) ≤ (k : Int) := by omega
      have i2 : (k : Int) < (n : Int) := by omega
      go_wp2_with fail
      go_round
      case rel => exact ⟨k + 1, by omega, by go_num⟩
      case measure => simp [intOf]; omega
    · have i2 : ¬ (k : Int) < (n : Int) := by omega
      go_wp2_with fail
      go_ret
      exact ⟨rfl, rfl⟩

set_option maxRecDepth 100000 in
set_option maxHeartbeats 4000000 in
theorem fullInts_yes (v : Value) (n : Nat) (m : Int) (w : World) (hn : n ≤ 1000000) (h : RowFull w 3 v n (.int .i64 m)) :
    Calls Tryz.prog 22 #[v, .int .i64 m] w fun e w' => e = .returned (.bool true) ∧ w' = w := by
  obtain ⟨ao, cap, rfl, hA⟩ := h.read
  have HA := hide hA
  clear hA h
  go_enter Tryz.func22, Tryz.ntmps22
  go_wp2_with fail
  go_loop [9] (fun kv => ∃ k : Nat, k ≤ n ∧ kv = .int .i64 (k : Int)) (fun kv => n - (intOf kv).toNat)
  case atStart => exact ⟨0, Nat.zero_le _, rfl⟩
  case round =>
    obtain ⟨k, hk, rfl⟩ := hrel
    by_cases hlt : k < n
    · obtain ⟨q, rfl, _, c0⟩ := HA.out k hlt
      have i1 : (0 : Int) ≤ (k : Int) := by omega
      have i2 : (k : Int) < (n : Int) := by omega
      go_wp2_with fail
      go_round
      case rel => exact ⟨k + 1, by omega, by go_num⟩
      case measure => simp [intOf]; omega
    · have i2 : ¬ (k : Int) < (n : Int) := by omega
      go_wp2_with fail
      go_ret
      exact ⟨rfl, rfl⟩

end Go.Proofs.YtnjaofkieajnlaaGreat

/- Steps of a script, as values and as they are read; the statement's own pick. -/
namespace Go.Proofs.YtnjaofkieajnlaaGreat
open Go.RowKit

/-- The statement's world, as its block holds it. -/
abbrev worldB (bsv : Value) : Obj := .cells #[.int .i64 0, .bool false, .slice none 0 0, .slice none 0 0, .slice none 0 0, .slice none 0 0, bsv, .slice none 0 0, .slice none 0 0, .slice none 0 0, .slice none 0 0, .slice none 0 0, .slice none 0 0, .slice none 0 0] 39 (0, 0)

/-- A step as a value, and as a block. -/
abbrev opC (k a b c K M O S : Int) (s : ByteArray) (lv : Value) : Array Value := #[.int .i64 k, .int .i64 a, .int .i64 b, .int .i64 c, .int .i64 K, .int .i64 M, .int .i64 O, .int .i64 S, .string s, lv]

theorem op_cells {w : World} {q : Nat} {k a b c K M O S : Int} {s : ByteArray} {lv : Value} {t : TypeId} (h : w.heap[q]? = some (.cells (opC k a b c K M O S s lv) t (0, 0))) :
    w.cell? ⟨q, 0, none⟩ = some (.int .i64 k) ∧ w.cell? ⟨q, 1, none⟩ = some (.int .i64 a) ∧ w.cell? ⟨q, 2, none⟩ = some (.int .i64 b) ∧ w.cell? ⟨q, 4, none⟩ = some (.int .i64 K) ∧ w.cell? ⟨q, 5, none⟩ = some (.int .i64 M) ∧ w.cell? ⟨q, 6, none⟩ = some (.int .i64 O) ∧ w.cell? ⟨q, 7, none⟩ = some (.int .i64 S) ∧ w.cell? ⟨q, 8, none⟩ = some (.string s) := by
  refine ⟨?_, ?_, ?_, ?_, ?_, ?_, ?_, ?_⟩ <;> rw [cell_of_row _ _ _ _ _ _ h] <;> rfl

set_option maxRecDepth 100000 in
set_option maxHeartbeats 400000 in
theorem lpick_any (c n : Int) (w : World) (h1 : -9223372036854775808 ≤ c) (h2 : c ≤ 9223372036854775807) (hn : 1 ≤ n) :
    Calls Tryz.prog 25 #[.int .i64 c, .int .i64 n] w fun e w' => e = .returned (.int .i64 (rawOf c % n)) ∧ w' = w := by
  by_cases hc : c < 0
  · have hr : rawOf c = -(c + 1) := by simp [rawOf, hc]
    rw [hr]
    clear hr
    go_enter Tryz.func25, Tryz.ntmps25
    go_wp2
    go_ret
    exact ⟨ret_int (by rw [← Int.neg_tmod, Int.tmod_eq_emod_of_nonneg (by omega)]), rfl⟩
  · have hr : rawOf c = c := by simp [rawOf, hc]
    rw [hr]
    clear hr
    go_enter Tryz.func25, Tryz.ntmps25
    go_wp2
    go_ret
    exact ⟨rfl, rfl⟩

theorem pick_place' (c : Int) (n : Nat) (hn : 0 < n) : rawOf c % (n : Int) = (placeOf n c : Int) := by
  unfold placeOf rawOf
  have h1 := Int.emod_nonneg (if c < 0 then -(c + 1) else c) (show (n : Int) ≠ 0 by omega)
  omega

/-- A step of a script. -/
structure OpR where
  k : Int
  a : Int
  b : Int
  c : Int
  K : Int
  M : Int
  O : Int
  S : Int
  s : ByteArray
  lv : Value

def OpR.none : OpR := ⟨0, 0, 0, 0, 0, 0, 0, 0, ByteArray.empty, .slice .none 0 0⟩

def OpR.cells (r : OpR) : List Value := [.int .i64 r.k, .int .i64 r.a, .int .i64 r.b, .int .i64 r.c, .int .i64 r.K, .int .i64 r.M, .int .i64 r.O, .int .i64 r.S, .string r.s, r.lv]

/-- A script that came in, as it is read. -/
def OpsAt (w : World) (v : Value) (l : List OpR) : Prop :=
  ∃ ao cap, v = .slice ao l.length cap ∧ l.length ≤ cap ∧ ∀ i, i < l.length → ∃ q o, ao = some ⟨q, o, none⟩ ∧ q < w.heap.size ∧ w.rangeAt q (o + i * 10) (l.getD i OpR.none).cells ∧ -9223372036854775808 ≤ (l.getD i OpR.none).a ∧ (l.getD i OpR.none).a ≤ 9223372036854775807

theorem range_below {w w' : World} {n q o : Nat} {cs : List Value} (h : w.rangeAt q o cs) (hb : Below n w w') (hq : q < n) : w'.rangeAt q o cs := fun j v hv => by
  rw [hb.cell (p := ⟨q, o + j, none⟩) hq]; exact h j v hv

theorem Tryz.sizeOp : (Tryz.prog.info? 29).map (·.size) = some 10 := by kernel_rfl

end Go.Proofs.YtnjaofkieajnlaaGreat

/- Lists of facts in memory, and the document's own stairs. -/
namespace Go.Proofs.YtnjaofkieajnlaaGreat
open Go.RowKit

theorem Tryz.infoFact : (Tryz.prog.info? 138).map (fun i => (i.zero, i.size, i.bytes)) = some (some (.agg #[.int .i64 0, .string ByteArray.empty]), 2, 24) := by kernel_rfl

/-- Facts as values: two cells each. -/
def factV : List Fct → List Value
  | [] => []
  | f :: l => .int .i64 (f.1 : Int) :: .string f.2 :: factV l

theorem factV_append (a b : List Fct) : factV (a ++ b) = factV a ++ factV b := by
  induction a with
  | nil => rfl
  | cons f a ih => simp [factV, ih]

theorem factV_length (l : List Fct) : (factV l).length = l.length * 2 := by
  induction l with
  | nil => rfl
  | cons f l ih => simp [factV, ih]; omega

theorem factV_get (l : List Fct) (k : Nat) (h : k < l.length) : (factV l)[k * 2]? = some (.int .i64 ((l.getD k (0, ByteArray.empty)).1 : Int)) ∧ (factV l)[k * 2 + 1]? = some (.string (l.getD k (0, ByteArray.empty)).2) := by
  induction l generalizing k with
  | nil => simp at h
  | cons f l ih =>
    cases k with
    | zero => exact ⟨rfl, rfl⟩
    | succ k =>
      have := ih k (by simpa using h)
      rw [show (k + 1) * 2 = k * 2 + 1 + 1 from by omega]
      exact this

theorem factV_one (l : List Fct) : ∀ u ∈ factV l, u.oneCell' = true := by
  induction l with
  | nil => intro u hu; simp [factV] at hu
  | cons f l ih =>
    intro u hu
    simp only [factV, List.mem_cons] at hu
    rcases hu with rfl | rfl | hu
    · rfl
    · rfl
    · exact ih u hu

/-- A list of facts, as it is read. -/
def FactsAt (w : World) (v : Value) (l : List Fct) : Prop :=
  ∃ ao cap, v = .slice ao l.length cap ∧ l.length ≤ cap ∧ ∀ k, k < l.length → ∃ q, ao = some ⟨q, 0, none⟩ ∧ q < w.heap.size ∧ w.cell? ⟨q, k * 2, none⟩ = some (.int .i64 ((l.getD k (0, ByteArray.empty)).1 : Int)) ∧ w.cell? ⟨q, k * 2 + 1, none⟩ = some (.string (l.getD k (0, ByteArray.empty)).2)

theorem owns_facts {w : World} {base : Nat} {v : Value} {l : List Fct} (h : w.ownsRow base 138 2 v l.length (factV l)) : FactsAt w v l := by
  rcases h.2 with ⟨rfl, hn⟩ | ⟨g, cap, cur, rfl, _, hg, hc, _, _, ht⟩
  · have he : l = [] := List.eq_nil_of_length_eq_zero hn
    subst he
    exact ⟨none, 0, rfl, Nat.le_refl _, fun k hk => absurd hk (Nat.not_lt_zero k)⟩
  · refine ⟨_, cap, rfl, hc, fun k hk => ⟨g, rfl, (Array.getElem?_eq_some_iff.1 hg).1, ?_⟩⟩
    rw [cell_of_row _ _ _ _ _ _ hg, cell_of_row _ _ _ _ _ _ hg]
    obtain ⟨h1, h2⟩ := factV_get l k hk
    rw [← ht, List.getElem?_take, if_pos (by omega)] at h1
    rw [← ht, List.getElem?_take, if_pos (by omega)] at h2
    exact ⟨by simpa using h1, by simpa using h2⟩

theorem FactsAt.on {w w1 : World} {v : Value} {l : List Fct} {n : Nat} (h : FactsAt w v l) (hn : w.heap.size ≤ n) (hb : Below n w w1) : FactsAt w1 v l := by
  obtain ⟨ao, cap, hv, hc, h⟩ := h
  refine ⟨ao, cap, hv, hc, fun k hk => ?_⟩
  obtain ⟨q, ha, hq, h1, h2⟩ := h k hk
  refine ⟨q, ha, Nat.lt_of_lt_of_le hq hb.size, ?_⟩
  rw [hb.cell (Nat.lt_of_lt_of_le hq hn), hb.cell (Nat.lt_of_lt_of_le hq hn)]
  exact ⟨h1, h2⟩

theorem facts_news {w : World} {q : Nat} {l : List Fct} (h : ∀ k, k < l.length → ∃ p, some (⟨q, 0, none⟩ : Addr) = some ⟨p, 0, none⟩ ∧ p < w.heap.size ∧ w.cell? ⟨p, k * 2, none⟩ = some (.int .i64 ((l.getD k (0, ByteArray.empty)).1 : Int)) ∧ w.cell? ⟨p, k * 2 + 1, none⟩ = some (.string (l.getD k (0, ByteArray.empty)).2)) :
    ∀ j u, (factV l)[j]? = some u → w.cell? ((⟨q, 0, none⟩ : Addr).add j) = some u := by
  intro j u hu
  have hj : j < l.length * 2 := by have := (List.getElem?_eq_some_iff.1 hu).1; rwa [factV_length] at this
  have hadd : (⟨q, 0, none⟩ : Addr).add j = ⟨q, j, none⟩ := by unfold Addr.add; split <;> simp_all
  rw [hadd]
  obtain ⟨p, hp, _, h1, h2⟩ := h (j / 2) (by omega)
  obtain ⟨g1, g2⟩ := factV_get l (j / 2) (by omega)
  simp only [Option.some.injEq, Addr.mk.injEq] at hp
  obtain ⟨rfl, _⟩ := hp
  rcases Nat.mod_two_eq_zero_or_one j with hm | hm
  · have e : j / 2 * 2 = j := by omega
    rw [e] at h1 g1
    rw [h1, ← g1, hu]
  · have e : j / 2 * 2 + 1 = j := by omega
    rw [e] at h2 g2
    rw [h2, ← g2, hu]

/-- What found holds. -/
def foundB (o : Option Fct) : Array Value := match o with
  | none => #[.int .i64 0, .string ByteArray.empty]
  | some g => #[.int .i64 (g.1 : Int), .string g.2]

/-- A round of the stairs: W the world at its beginning, in which found's block comes next. -/
structure SAt (W wr : World) (R : List Fct) (o : Option Fct) (rv : Value) : Prop where
  found : wr.heap[W.heap.size]? = some (.cells (foundB o) 138 (0, 0))
  own : wr.ownsRow (W.heap.size + 1) 138 2 rv R.length (factV R)
  below : Below W.heap.size W wr

def sifted (bit : Nat) (l : List Fct) (k : Nat) : List Fct × Option Fct := (l.take k).foldl (siftStep bit) ([], none)

theorem sifted_succ (bit : Nat) (l : List Fct) (k : Nat) (h : k < l.length) : sifted bit l (k + 1) = siftStep bit (sifted bit l k) (l.getD k (0, ByteArray.empty)) := by
  unfold sifted
  rw [List.take_succ_eq_append_getElem h, List.foldl_append, List.getD_eq_getElem?_getD, List.getElem?_eq_getElem h]; rfl

theorem sifted_all (bit : Nat) (l : List Fct) : sifted bit l l.length = sift bit l := by unfold sifted sift; rw [List.take_length]

theorem siftStep_len (bit : Nat) (st : List Fct × Option Fct) (f : Fct) : (siftStep bit st f).1.length + (siftStep bit st f).2.toList.length ≤ st.1.length + st.2.toList.length + 1 := by
  obtain ⟨r, o⟩ := st
  unfold siftStep
  by_cases h : f.1.testBit bit = true
  · rw [if_pos h]
    cases o <;> simp
  · rw [if_neg h]
    simp; omega

theorem sifted_len (bit : Nat) (l : List Fct) (k : Nat) (h : k ≤ l.length) : (sifted bit l k).1.length + (sifted bit l k).2.toList.length ≤ k := by
  induction k with
  | zero => simp [sifted]
  | succ k ih =>
    rw [sifted_succ bit l k (by omega)]
    have := siftStep_len bit (sifted bit l k) (l.getD k (0, ByteArray.empty))
    have := ih (by omega)
    omega

theorem sifted_found (bit z : Nat) (l : List Fct) (k : Nat) (hs : Sized z l) {g : Fct} (h : (sifted bit l k).2 = some g) : g ∈ l ∧ g.1.testBit bit = true := by
  have h1 := (sift_ok bit z (l.take k) (fun x hx => hs x (List.mem_of_mem_take hx))).found g h
  exact ⟨List.mem_of_mem_take h1.1, h1.2⟩

theorem stairsTo_len (l : List Fct) (n : Nat) : (stairsTo l n).1.length + (stairsTo l n).2.length ≤ l.length := by
  induction n with
  | zero => simp [stairsTo]
  | succ n ih =>
    have h := sifted_len (39 - n) (stairsTo l n).2 _ (Nat.le_refl _)
    rw [sifted_all] at h
    show ((stairsTo l n).1 ++ (sift (39 - n) (stairsTo l n).2).2.toList).length + (sift (39 - n) (stairsTo l n).2).1.length ≤ _
    rw [List.length_append]; omega

theorem low_lt {n : Nat} {l : List Fct} (h : Low n l) (hn : n ≤ 40) {f : Fct} (hf : f ∈ l) : f.1 < 1099511627776 := by
  have : f.1 < 2 ^ 40 := Nat.lt_pow_two_of_testBit _ (fun i hi => h f hf i (by omega))
  omega

theorem found_cells {w : World} {q : Nat} {o : Option Fct} (h : w.heap[q]? = some (.cells (foundB o) 138 (0, 0))) :
    w.cell? ⟨q, 0, none⟩ = some (.int .i64 (((o.getD (0, ByteArray.empty)).1 : Nat) : Int)) ∧ w.cell? ⟨q, 1, none⟩ = some (.string (o.getD (0, ByteArray.empty)).2) ∧ q < w.heap.size := by
  refine ⟨?_, ?_, (Array.getElem?_eq_some_iff.1 h).1⟩
  · rw [cell_of_row _ _ _ _ _ _ h]; cases o <;> rfl
  · rw [cell_of_row _ _ _ _ _ _ h]; cases o <;> rfl

theorem found_frozen {w : World} {q : Nat} {cs : Array Value} {t : TypeId} (h : w.heap[q]? = some (.cells cs t (0, 0))) (i : Nat) : w.frozen? ⟨q, i, none⟩ = false := by
  simp [World.frozen?, h]

theorem heap_alloc2 (w : World) (a b : Obj) : ((w.alloc a).alloc b).heap[w.heap.size + 1]? = some b := by
  have h := heap_alloc_new (w.alloc a) b
  rwa [World.size_alloc] at h

theorem SAt.take {W wr : World} {R : List Fct} {o : Option Fct} {rv : Value} (f : Fct) (b : Obj) (h : SAt W wr R o rv) :
    SAt W (((wr.setCell ⟨W.heap.size, 0, none⟩ (.int .i64 (f.1 : Int))).setCell ⟨W.heap.size, 1, none⟩ (.string f.2)).alloc b) R (some f) rv := by
  have hq := (found_cells h.found).2.2
  have h1 := heap_setCell_same wr W.heap.size 0 _ _ (.int .i64 (f.1 : Int)) h.found
  have h2 := heap_setCell_same _ W.heap.size 1 _ _ (.string f.2) h1
  refine ⟨?_, ?_, ?_⟩
  · rw [heap_alloc_old _ _ (by simp; omega), h2]
    cases o <;> rfl
  · refine World.ownsRow.alloc (owns_of_block (w := wr) h.own (fun k hk => ?_)) _
    have hk2 := (h.own.lt k hk).1
    rw [heap_setCell_other _ _ _ _ (by show k ≠ W.heap.size; omega), heap_setCell_other _ _ _ _ (by show k ≠ W.heap.size; omega)]
  · exact ((h.below.setCell (Nat.le_refl _) _).setCell (Nat.le_refl _) _).alloc (by simp; omega) _

theorem SAt.on {W wr w2 : World} {R : List Fct} {o : Option Fct} {rv : Value} (h : SAt W wr R o rv) (hb : Below wr.heap.size wr w2) : SAt W w2 R o rv := by
  have hq := (found_cells h.found).2.2
  exact ⟨by rw [hb.block _ hq]; exact h.found, owns_of_block h.own (fun k hk => hb.block k (h.own.lt k hk).2), h.below.trans (hb.mono (Nat.le_of_lt hq))⟩

theorem SAt.push {W wr w2 : World} {R R' : List Fct} {o : Option Fct} {rv v' : Value} {n : Nat} {xs : List Value} (h : SAt W wr R o rv) (hg : wr.grownBy w2 rv.ownBlock)
    (hown : w2.ownsRow (W.heap.size + 1) 138 2 v' n xs) (hn : R'.length = n) (hx : factV R' = xs) : SAt W w2 R' o v' := by
  have hq := (found_cells h.found).2.2
  refine ⟨?_, by rw [hn, hx]; exact hown, h.below.grown hg (Nat.le_of_lt hq) (fun k e => by have := (h.own.lt k e).1; omega)⟩
  rw [hg.block _ hq (fun e => by have := (h.own.lt _ e.symm).1; omega)]
  exact h.found

set_option maxRecDepth 100000 in
set_option maxHeartbeats 8000000 in
theorem stairs_any (v : Value) (l : List Fct) (z : Nat) (w : World) (hl : l.length ≤ 1000) (hz : 0 < z ∧ z ≤ 1000) (hs : Sized z l) (hlo : Low 40 l) (hat : FactsAt w v l) :
    Calls Tryz.prog 89 #[v] w fun e w' => ∃ v', e = .returned v' ∧ w'.ownsRow w.heap.size 138 2 v' (stairs l).length (factV (stairs l)) ∧ Below w.heap.size w w' := by
  obtain ⟨i0, hi, hz0, hz1, hz2⟩ := info_parts Tryz.infoFact
  go_enter Tryz.func89, Tryz.ntmps89
  go_wp2_with fail
  go_loopw [0, 3, 4] (fun lv ov bv wr => ∃ n : Nat, n ≤ 40 ∧ bv = .int .i64 (39 - (n : Int)) ∧ FactsAt wr lv (stairsTo l n).2 ∧ wr.ownsRow w.heap.size 138 2 ov (stairsTo l n).1.length (factV (stairsTo l n).1) ∧ Below w.heap.size w wr) (fun _ _ b _ => (intOf b + 1).toNat)
  case atStart => exact ⟨0, by omega, rfl, hat, World.ownsRow_nil _ _ _ _, Below.refl _ _⟩
  case round =>
    clear hat
    obtain ⟨n, hn, rfl, hat, hown, hbel⟩ := hrel
    by_cases hlt : n < 40
    · have hbc : (39 - (n : Int)) = ((39 - n : Nat) : Int) := by omega
      rw [hbc]
      have hk := stair_ok z l hs hlo n hn
      have hlen : (stairsTo l n).2.length ≤ 1000 := by have := stairsTo_len l n; omega
      have hst : stairsTo l (n + 1) = ((stairsTo l n).1 ++ (sift (39 - n) (stairsTo l n).2).2.toList, (sift (39 - n) (stairsTo l n).2).1) := rfl
      have Hst := hide hst
      have hlow := hk.low
      have hsz : Sized z (stairsTo l n).2 := fun x hx => hk.sized x (List.mem_append_right _ hx)
      clear hst hk
      generalize (stairsTo l n).2 = L at *
      obtain ⟨W, rfl⟩ : ∃ W, W = wr := ⟨_, rfl⟩
      obtain ⟨ao, cap, rfl, hcap, hL⟩ := hat
      go_wp2_with fail
      go_loopw [5, 16] (fun rv iv wi => ∃ k : Nat, k ≤ L.length ∧ iv = .int .i64 (k : Int) ∧ SAt W wi (sifted (39 - n) L k).1 (sifted (39 - n) L k).2 rv) (fun _ i _ => L.length - (intOf i).toNat)
      case atStart => exact ⟨0, Nat.zero_le _, rfl, heap_alloc_new W _, World.ownsRow_nil _ _ _ _, (Below.refl _ _).alloc (Nat.le_refl _) _⟩
      case round =>
        obtain ⟨k, hkl, rfl, hin⟩ := hrel
        by_cases hkL : k < L.length
        · obtain ⟨q, rfl, hq, c0, c1⟩ := hL k hkL
          have d0 := (hin.below.cell (p := ⟨q, k * 2, none⟩) hq).trans c0
          have d1 := (hin.below.cell (p := ⟨q, k * 2 + 1, none⟩) hq).trans c1
          have hss := sifted_succ (39 - n) L k hkL
          have hsl := sifted_len (39 - n) L k hkl
          have hfl : L.getD k (0, ByteArray.empty) ∈ L := by rw [List.getD_eq_getElem?_getD, List.getElem?_eq_getElem hkL]; exact List.getElem_mem hkL
          have hf1 := low_lt hlow (by omega) hfl
          have hf2 := hsz _ hfl
          have hfo : ∀ g, (sifted (39 - n) L k).2 = some g → g ∈ L ∧ g.1.testBit (39 - n) = true := fun g hg => sifted_found (39 - n) z L k hsz hg
          generalize L.getD k (0, ByteArray.empty) = f at *
          generalize sifted (39 - n) L k = st at *
          obtain ⟨R, o⟩ := st
          have hRl : R.length ≤ k := by simp at hsl; omega
          dsimp only at hin hfo
          obtain ⟨e0, e1, hqf⟩ := found_cells hin.found
          have hbt := bit_off f.1 (39 - n) (by omega)
          have i1 : (0 : Int) ≤ (k : Int) := by omega
          have i2 : (k : Int) < (L.length : Int) := by omega
          have hown2 := hin.own
          clear c0 c1 hL hsl
          by_cases htb : f.1.testBit (39 - n) = true
          · rw [htb] at hbt
            have hbt2 : (bits BinOp.and IntKind.i64 ((f.1 : Int) / 2 ^ (39 - n)) 1 == 0) = false := hbt
            cases o with
            | none =>
              have hss2 : sifted (39 - n) L (k + 1) = (R, some f) := by rw [hss]; simp [siftStep, htb]
              have Hss := hide hss2
              have z0 := found_frozen hin.found 0
              have z1 := found_frozen hin.found 1
              have e0' : wr.cell? ⟨W.heap.size, 0, none⟩ = some (.int .i64 0) := e0
              clear hss hss2 hbt e0
              go_wp2_with fail
              go_roundw
              case rel => exact ⟨k + 1, by omega, by go_num, by rw [Hss.out]; exact hin.take f _⟩
              case measure => simp [intOf]; omega
            | some g =>
              have hss2 : sifted (39 - n) L (k + 1) = (R ++ [(f.1 ^^^ g.1, xorB f.2 g.2)], some g) := by rw [hss]; simp [siftStep, htb]
              obtain ⟨hg1, hg2⟩ := hfo g rfl
              have hg3 := low_lt hlow (by omega) hg1
              have hg4 := hsz _ hg1
              have hg0 : ((g.1 : Int) == 0) = false := by
                have : g.1 ≠ 0 := fun e => by rw [e] at hg2; simp at hg2
                simp; exact this
              have hx := i64_xor_nat f.1 g.1 (by omega) (by omega)
              have Hss := hide hss2
              have Hx := hide hx
              have e0' : wr.cell? ⟨W.heap.size, 0, none⟩ = some (.int .i64 (g.1 : Int)) := e0
              have e1' : wr.cell? ⟨W.heap.size, 1, none⟩ = some (.string g.2) := e1
              have h2z : f.2.size = g.2.size := by omega
              have h0z : 0 < f.2.size := by omega
              have h1z : f.2.size ≤ 1000 := by omega
              have x0 : (wr.alloc (.cells #[.int .i64 (f.1 : Int), .string f.2] 138)).cell? ⟨wr.heap.size, 0, none⟩ = some (.int .i64 (f.1 : Int)) := by rw [cell_of_row _ _ _ _ _ _ (heap_alloc_new wr _)]; rfl
              have x1 : (wr.alloc (.cells #[.int .i64 (f.1 : Int), .string f.2] 138)).cell? ⟨wr.heap.size, 1, none⟩ = some (.string f.2) := by rw [cell_of_row _ _ _ _ _ _ (heap_alloc_new wr _)]; rfl
              have y0 : (wr.alloc (.cells #[.int .i64 (f.1 : Int), .string f.2] 138)).cell? ⟨W.heap.size, 0, none⟩ = some (.int .i64 (g.1 : Int)) := (World.cell?_of_block (w := wr) (heap_alloc_old wr _ hqf)).trans e0
              have y1 : (wr.alloc (.cells #[.int .i64 (f.1 : Int), .string f.2] 138)).cell? ⟨W.heap.size, 1, none⟩ = some (.string g.2) := (World.cell?_of_block (w := wr) (heap_alloc_old wr _ hqf)).trans e1
              clear hss hss2 hbt e0 e1 hx
              go_wp2_with fail
              go_region_held3 (fun w' => w'.cell? ⟨wr.heap.size, 0, none⟩ = some (.int .i64 (f.1 : Int)) ∧ w'.cell? ⟨wr.heap.size, 1, none⟩ = some (.string f.2) ∧ w'.cell? ⟨W.heap.size, 0, none⟩ = some (.int .i64 (g.1 : Int)) ∧ w'.cell? ⟨W.heap.size, 1, none⟩ = some (.string g.2))
                (first | (exact ⟨k0, k1, k2, k3⟩) | (exact ⟨j0, j1, j2, j3⟩) | go_keep)
                (first
                  | (go_at_call 90; refine (plus_any f.2 g.2 _ h2z h0z h1z).mono ?_; rintro e wp ⟨rfl, hbp⟩; have k0 := (hbp.cell (p := ⟨wr.heap.size, 0, none⟩) (by simp)).trans x0; have k1 := (hbp.cell (p := ⟨wr.heap.size, 1, none⟩) (by simp)).trans x1; have k2 := (hbp.cell (p := ⟨W.heap.size, 0, none⟩) (by simp; omega)).trans y0; have k3 := (hbp.cell (p := ⟨W.heap.size, 1, none⟩) (by simp; omega)).trans y1; have hbw : Below wr.heap.size wr wp := ((Below.refl _ _).alloc (Nat.le_refl _) _).drew.trans (hbp.mono (by simp)); have hSp := hin.on hbw; have hso := hSp.own; have hsw := hbp.size)
                  | (refine step_append_lies _ (by rfl) (.tmp 20) (.tmp 32) 112 (by rfl) (W.heap.size + 1) 138 i0 _ 2 24 Tryz.underlying112 hi hz0 hz1 hz2 rfl (by decide) _ _ _ (by rfl) (World.ownsRow.alloc hso _) ⟨wp.heap.size, 0, none⟩ 1 1 [.int .i64 (bits BinOp.xor IntKind.i64 (f.1 : Int) (g.1 : Int)), .string (xorB f.2 g.2)] (by rfl) rfl (World.news_of_block (cs := #[_, _]) (heap_alloc_new wp _)) (by intro u hu; simp at hu; rcases hu with rfl | rfl <;> rfl) (by decide) (by unfold maxLen; omega) (by omega) (by simp at hsw ⊢; omega) (wp.heap.size + 1) (by simp) ?_; intro gg cap2 w2 hown3 hgr hat2 hlt2; have hgr0 := grownBy_of_alloc hgr; have j0 := (hgr0.cell_far ⟨wr.heap.size, 0, none⟩ (by simp at hsw ⊢; omega) (fun e => absurd (hown2.lt _ e.symm).2 (Nat.lt_irrefl _))).trans k0; have j1 := (hgr0.cell_far ⟨wr.heap.size, 1, none⟩ (by simp at hsw ⊢; omega) (fun e => absurd (hown2.lt _ e.symm).2 (Nat.lt_irrefl _))).trans k1; have j2 := (hgr0.cell_far ⟨W.heap.size, 0, none⟩ (by simp at hsw ⊢; omega) (fun e => absurd (hown2.lt _ e.symm).1 (Nat.not_succ_le_self _))).trans k2; have j3 := (hgr0.cell_far ⟨W.heap.size, 1, none⟩ (by simp at hsw ⊢; omega) (fun e => absurd (hown2.lt _ e.symm).1 (Nat.not_succ_le_self _))).trans k3))
              have hnext := hSp.push (R' := R ++ [(f.1 ^^^ g.1, xorB f.2 g.2)]) hgr0 hown3 (by simp) (by rw [factV_append, Hx.out]; rfl)
              clear hown3 hgr hat2 hin hown2 hso hSp
              go_wp2
              go_roundw
              case rel => exact ⟨k + 1, by omega, by go_num, by rw [Hss.out]; exact hnext⟩
              case measure => simp [intOf]; omega
          · have htb2 : f.1.testBit (39 - n) = false := by simpa using htb
            rw [htb2] at hbt
            have hbt2 : (bits BinOp.and IntKind.i64 ((f.1 : Int) / 2 ^ (39 - n)) 1 == 0) = true := hbt
            have hss2 : sifted (39 - n) L (k + 1) = (R ++ [f], o) := by rw [hss]; simp [siftStep, htb2]
            have Hss := hide hss2
            clear hss hss2 hbt htb
            go_wp2_with (at_builtin; refine wpList_append_lies _ rfl (.tmp 41) (.tmp 43) 112 rfl (W.heap.size + 1) 138 i0 _ 2 24 Tryz.underlying112 hi hz0 hz1 hz2 rfl (by decide) _ _ _ rfl ((hown2.alloc _).alloc _) ⟨wr.heap.size + 1, 0, none⟩ 1 1 [.int .i64 (f.1 : Int), .string f.2] rfl rfl (World.news_of_block (cs := #[_, _]) (heap_alloc2 wr _ _)) (by intro u hu; simp at hu; rcases hu with rfl | rfl <;> rfl) (by decide) (by unfold maxLen; omega) (by omega) (by simp; omega) (wr.heap.size + 1 + 1) (by simp) ?_)
            intro gg cap2 w2 hown3 hgr hat2 hlt2
            have hnext := hin.push (R' := R ++ [f]) (grownBy_of_alloc (grownBy_of_alloc hgr)) hown3 (by simp) (by rw [factV_append]; rfl)
            clear hown3 hgr hat2 hin hown2
            go_wp2
            go_roundw
            case rel => exact ⟨k + 1, by omega, by go_num, by rw [Hss.out]; exact hnext⟩
            case measure => simp [intOf]; omega
        · have hkk : k = L.length := by omega
          rw [hkk, sifted_all] at hin
          have hfo : ∀ g, (sift (39 - n) L).2 = some g → g ∈ L ∧ g.1.testBit (39 - n) = true := fun g hg => sifted_found (39 - n) z L L.length hsz (by rw [sifted_all]; exact hg)
          have hEl := stairsTo_len l n
          generalize sift (39 - n) L = st at *
          generalize hE : (stairsTo l n).1 = E at *
          obtain ⟨R, o⟩ := st
          dsimp only at hin hfo Hst
          obtain ⟨e0, e1, hqf⟩ := found_cells hin.found
          have hownW : wr.ownsRow w.heap.size 138 2 u3 E.length (factV E) := owns_of_block hown (fun k hk => hin.below.block k (hown.lt k hk).2)
          have hbw : Below w.heap.size w wr := hbel.trans (hin.below.mono hbel.size)
          have hownW0 := hown
          clear hL hown
          cases o with
          | none =>
            have e0' : wr.cell? ⟨W.heap.size, 0, none⟩ = some (.int .i64 0) := e0
            have hrest := owns_facts hin.own
            clear e0 e1 hin hbel
            go_wp2_with fail
            go_roundw
            case rel => exact ⟨n + 1, by omega, by go_num, by rw [Hst.out]; exact hrest, by rw [Hst.out]; simpa using hownW, hbw⟩
            case measure => simp [intOf]
          | some g =>
            have e0' : wr.cell? ⟨W.heap.size, 0, none⟩ = some (.int .i64 (g.1 : Int)) := e0
            have e1' : wr.cell? ⟨W.heap.size, 1, none⟩ = some (.string g.2) := e1
            have hg0 : ((g.1 : Int) == 0) = false := by
              have : g.1 ≠ 0 := fun e => by have := (hfo g rfl).2; rw [e] at this; simp at this
              simp; exact this
            have hg1 : ((g.1 : Int) != 0) = true := by rw [bne, hg0]; rfl
            clear e0 e1
            go_wp2_with (at_builtin; refine wpList_append_lies _ rfl (.tmp 54) (.tmp 56) 112 rfl w.heap.size 138 i0 _ 2 24 Tryz.underlying112 hi hz0 hz1 hz2 rfl (by decide) _ _ _ rfl (hownW.alloc _) ⟨wr.heap.size, 0, none⟩ 1 1 [.int .i64 (g.1 : Int), .string g.2] rfl rfl (World.news_of_block (cs := #[_, _]) (heap_alloc_new wr _)) (by intro u hu; simp at hu; rcases hu with rfl | rfl <;> rfl) (by decide) (by unfold maxLen; omega) (by omega) (by simp; have := hbw.size; omega) (wr.heap.size + 1) (by simp) ?_)
            intro gg cap2 w2 hown3 hgr hat2 hlt2
            have hgr0 := grownBy_of_alloc hgr
            have hrest := owns_facts (owns_of_block hin.own (fun k hk => hgr0.block k (hin.own.lt k hk).2 (fun e => by have h1 := (hin.own.lt k hk).1; have h2 := (hownW0.lt k e.symm).2; omega)))
            have hb2 : Below w.heap.size w w2 := hbw.grown hgr0 hbw.size (fun k e => (hownW.lt k e).1)
            have hown4 : w2.ownsRow w.heap.size 138 2 (.slice (some ⟨gg, 0, none⟩) (E.length + 1) cap2) (E ++ [g]).length (factV (E ++ [g])) := by rw [factV_append, List.length_append]; exact hown3
            clear hown3 hgr hat2 hgr0 hin hownW hbw hownW0 hbel
            go_wp2
            go_roundw
            case rel => exact ⟨n + 1, by omega, by go_num, by rw [Hst.out]; exact hrest, by rw [Hst.out]; exact hown4, hb2⟩
            case measure => simp [intOf]
    · have hn40 : n = 40 := by omega
      have hEl := stairsTo_len l n
      have hst : stairs l = stairsAll l n := by rw [hn40]; rfl
      have hst2 : stairsAll l n = (stairsTo l n).1 ++ (stairsTo l n).2 := rfl
      rw [hst2] at hst
      have Hst := hide hst
      clear hst hst2
      generalize (stairsTo l n).1 = E at *
      generalize (stairsTo l n).2 = L at *
      obtain ⟨ao, cap, rfl, hcap, hL⟩ := hat
      have hsb := hbel.size
      cases L with
      | nil =>
        have hown4 : wr.ownsRow w.heap.size 138 2 u3 (stairs l).length (factV (stairs l)) := by rw [Hst.out, List.append_nil]; exact hown
        have hh := hown.2
        clear hown hL Hst
        rcases hh with ⟨rfl, hn0⟩ | ⟨g, c2, cur, rfl, _, hg, hc, _, _, _⟩
        · clear hn0
          cases ao with
          | none =>
            go_wp2_with fail
            go_ret
            exact ⟨_, rfl, hown4, hbel⟩
          | some a =>
            go_wp2_with fail
            go_ret
            exact ⟨_, rfl, hown4, hbel⟩
        · clear hg
          cases ao with
          | none =>
            go_wp2_with fail
            go_ret
            exact ⟨_, rfl, hown4, hbel⟩
          | some a =>
            go_wp2_with fail
            go_ret
            exact ⟨_, rfl, hown4, hbel⟩
      | cons f0 L0 =>
        obtain ⟨q, rfl, hq, _, _⟩ := hL 0 (by simp)
        have hnews := facts_news hL
        generalize hLL : f0 :: L0 = L at *
        have hL0 : 0 < L.length := by rw [← hLL]; simp
        clear hLL hL
        go_wp2_with (at_builtin; refine wpList_append_lies _ rfl (.tmp 59) (.tmp 60) 112 rfl w.heap.size 138 i0 _ 2 24 Tryz.underlying112 hi hz0 hz1 hz2 rfl (by decide) _ _ _ rfl hown ⟨q, 0, none⟩ L.length cap (factV L) rfl (factV_length L) hnews (factV_one L) hL0 (by unfold maxLen; omega) (by omega) hsb wr.heap.size rfl ?_)
        intro gg cap2 w2 hown3 hgr hat2 hlt2
        have hb2 : Below w.heap.size w w2 := hbel.grown hgr hsb (fun k e => (hown.lt k e).1)
        have hown4 : w2.ownsRow w.heap.size 138 2 (.slice (some ⟨gg, 0, none⟩) (E.length + L.length) cap2) (stairs l).length (factV (stairs l)) := by rw [Hst.out, factV_append, List.length_append]; exact hown3
        clear hown3 hgr hat2 hown
        go_wp2
        go_ret
        exact ⟨_, rfl, hown4, hb2⟩

end Go.Proofs.YtnjaofkieajnlaaGreat
