/- Texts of the proof, part 23. -/
import Derived.Test.YtnjaofkieajnlaaGreatAlluptoG21

/- The statement's own markRows. -/
namespace Go.Proofs.YtnjaofkieajnlaaGreat
open Go.RowKit

theorem Tryz.infoIss : (Tryz.prog.info? 32).map (fun i => (i.zero, i.size, i.bytes)) = some (some (.slice none 0 0), 1, 24) := by kernel_rfl

abbrev nilV : Value := .slice none 0 0

/-- A row that is marked, and grown by one, two and three marks. -/
structure MarkedI (n0 : Nat) (w : World) (r : Value) (c : Int) (a b1 b2 b3 : Value) : Prop where
  full : ∃ n, n ≤ 1000 ∧ RowFull w 3 a n (.int .i64 c) ∧ RowFull w 3 b1 (n + 1) (.int .i64 c) ∧ RowFull w 3 b2 (n + 2) (.int .i64 c) ∧ RowFull w 3 b3 (n + 3) (.int .i64 c)
  ba : ∀ k, a.ownBlock = some k → r.ownBlock = some k ∨ n0 ≤ k
  bb1 : ∀ k, b1.ownBlock = some k → r.ownBlock = some k ∨ n0 ≤ k
  bb2 : ∀ k, b2.ownBlock = some k → r.ownBlock = some k ∨ n0 ≤ k
  bb3 : ∀ k, b3.ownBlock = some k → r.ownBlock = some k ∨ n0 ≤ k

theorem MarkedI.far {n0 : Nat} {w w' : World} {r : Value} {c : Int} {a b1 b2 b3 : Value} {S : Nat → Prop} (h : MarkedI n0 w r c a b1 b2 b3) (hc : Chg S w w') (hs : ∀ k, S k → (r.ownBlock ≠ some k ∧ k < n0) ∨ ∃ cs t, w.heap[k]? = some (.cells cs t (0, 0)) ∧ t ≠ 3) : MarkedI n0 w' r c a b1 b2 b3 := by
  have hf : ∀ {v : Value} {m : Nat}, RowFull w 3 v m (.int .i64 c) → (∀ k, v.ownBlock = some k → r.ownBlock = some k ∨ n0 ≤ k) → RowFull w' 3 v m (.int .i64 c) := fun {v m} hv hb => hv.blocks (fun k hk => hc.block k (hv.lt hk) (fun x => by
    rcases hs k x with ⟨h1, h2⟩ | ⟨cs, t, h1, h2⟩
    · rcases hb k hk with h3 | h3
      · exact h1 h3
      · omega
    · exact owns_other hv h1 (fun e => h2 e.symm) hk))
  obtain ⟨n, hn, f0, f1, f2, f3⟩ := h.full
  exact ⟨⟨n, hn, hf f0 h.ba, hf f1 h.bb1, hf f2 h.bb2, hf f3 h.bb3⟩, h.ba, h.bb1, h.bb2, h.bb3⟩

/-- Where markRows stands behind kk rows. -/
structure MR (w0 wr : World) (wb : Nat) (f : Nat → Value) (iv lv : List Value) (v : Value) (M : Nat) (rv : Nat → Value) (L : Nat → List Nat) (kk : Nat) (v11 v12 : Value) (ivs lvs : List Value) : Prop where
  row : wr.rowIs wb 39 14 (fun i => if i = 12 then v12 else if i = 11 then v11 else f i)
  i11 : wr.ownsRow 0 63 1 v11 (iv.length + kk) (iv ++ ivs)
  i12 : wr.ownsRow 0 63 1 v12 (lv.length + 3 * kk) (lv ++ lvs)
  il : ivs.length = kk
  ll : lvs.length = 3 * kk
  marked : ∀ j, j < kk → MarkedI w0.heap.size wr (rv j) (-1 - ((iv.length + j : Nat) : Int)) (ivs.getD j nilV) (lvs.getD (3 * j) nilV) (lvs.getD (3 * j + 1) nilV) (lvs.getD (3 * j + 2) nilV)
  spine : wr.ownsRow 0 63 1 v M ((List.range M).map (fun j => if j < kk then nilV else rv j))
  rows : ∀ j, kk ≤ j → j < M → wr.ownsRow 0 3 1 (rv j) (L j).length (numsV (L j))
  b11 : ∀ k, v11.ownBlock = some k → (f 11).ownBlock = some k ∨ w0.heap.size ≤ k
  b12 : ∀ k, v12.ownBlock = some k → (f 12).ownBlock = some k ∨ w0.heap.size ≤ k
  apart : ∀ k, v11.ownBlock = some k → v12.ownBlock ≠ some k
  chg : Chg (fun k => k = wb ∨ (f 11).ownBlock = some k ∨ (f 12).ownBlock = some k ∨ fpRows v M rv k) w0 wr

theorem fill_nums (L : List Value) (u : Value) (i : Nat) (hi : i < L.length) : (List.replicate i u ++ L.drop i).set i u = List.replicate (i + 1) u ++ L.drop (i + 1) := by
  apply List.ext_getElem?
  intro j
  by_cases e : j = i
  · subst e
    rw [List.getElem?_set_self (by simp; omega), List.getElem?_append_left (by simp), List.getElem?_replicate, if_pos (by omega)]
  · rw [List.getElem?_set_ne (fun x => e x.symm)]
    by_cases h : j < i
    · rw [List.getElem?_append_left (by simp; omega), List.getElem?_append_left (by simp; omega), List.getElem?_replicate, List.getElem?_replicate, if_pos h, if_pos (by omega)]
    · rw [List.getElem?_append_right (by simp; omega), List.getElem?_append_right (by simp; omega), List.getElem?_drop, List.getElem?_drop]
      simp
      congr 1
      omega

/-- One row more: what it needs. -/
theorem MR.step {w0 wr w9 : World} {wb : Nat} {f : Nat → Value} {iv lv : List Value} {v : Value} {M : Nat} {rv : Nat → Value} {L : Nat → List Nat} {kk : Nat} {v11 v12 : Value} {ivs lvs : List Value} (h : MR w0 wr wb f iv lv v M rv L kk v11 v12 ivs lvs) (hk : kk < M) (hro : RowsOwn w0 v M rv L)
    {V11 V12 G1 G2 G3 : Value}
    (row : w9.rowIs wb 39 14 (fun i => if i = 12 then V12 else if i = 11 then V11 else f i))
    (o11 : w9.ownsRow 0 63 1 V11 (iv.length + kk + 1) ((iv ++ ivs) ++ [rv kk])) (o12 : w9.ownsRow 0 63 1 V12 (lv.length + 3 * kk + 3) ((lv ++ lvs) ++ [G1, G2, G3]))
    (mk : MarkedI w0.heap.size w9 (rv kk) (-1 - ((iv.length + kk : Nat) : Int)) (rv kk) G1 G2 G3)
    (sp : w9.ownsRow 0 63 1 v M (((List.range M).map (fun j => if j < kk then nilV else rv j)).set kk nilV))
    (b11 : ∀ k, V11.ownBlock = some k → v11.ownBlock = some k ∨ w0.heap.size ≤ k) (b12 : ∀ k, V12.ownBlock = some k → v12.ownBlock = some k ∨ w0.heap.size ≤ k) (ap : ∀ k, V11.ownBlock = some k → V12.ownBlock ≠ some k)
    (cg : Chg (fun k => k = wb ∨ v11.ownBlock = some k ∨ v12.ownBlock = some k ∨ (rv kk).ownBlock = some k ∨ v.ownBlock = some k) wr w9) : MR w0 w9 wb f iv lv v M rv L (kk + 1) V11 V12 (ivs ++ [rv kk]) (lvs ++ [G1, G2, G3]) := by
  obtain ⟨rb, hrb⟩ := rowIs_block h.row
  have hkb : ∀ k, (rv kk).ownBlock = some k → k < w0.heap.size := fun k hk' => hro.lt (Or.inr ⟨kk, hk, hk'⟩)
  have htyp : ∀ j, j ≠ kk → j < M → ∀ k, (k = wb ∨ v11.ownBlock = some k ∨ v12.ownBlock = some k ∨ (rv kk).ownBlock = some k ∨ v.ownBlock = some k) → ((rv j).ownBlock ≠ some k ∧ k < w0.heap.size) ∨ ∃ cs t, wr.heap[k]? = some (.cells cs t (0, 0)) ∧ t ≠ 3 := fun j hj hjM k hs => by
    rcases hs with rfl | hs | hs | hs | hs
    · exact Or.inr ⟨_, _, hrb, by decide⟩
    · obtain ⟨c, hc⟩ := owns_block h.i11 hs
      exact Or.inr ⟨_, _, hc, by decide⟩
    · obtain ⟨c, hc⟩ := owns_block h.i12 hs
      exact Or.inr ⟨_, _, hc, by decide⟩
    · exact Or.inl ⟨fun e => hro.apart j kk hjM hk hj k e hs, hkb k hs⟩
    · obtain ⟨c, hc⟩ := owns_block h.spine hs
      exact Or.inr ⟨_, _, hc, by decide⟩
  have hget : ∀ (l : List Value) (a : List Value) (j : Nat), j < l.length → (l ++ a).getD j nilV = l.getD j nilV := fun l a j hj => by
    rw [List.getD_eq_getElem?_getD, List.getD_eq_getElem?_getD, List.getElem?_append_left hj]
  have hget2 : ∀ (l : List Value) (a : List Value) (j : Nat), (l ++ a).getD (l.length + j) nilV = a.getD j nilV := fun l a j => by
    rw [List.getD_eq_getElem?_getD, List.getD_eq_getElem?_getD, List.getElem?_append_right (by omega), Nat.add_sub_cancel_left]
  refine ⟨row, by rw [← List.append_assoc]; exact o11, by rw [← List.append_assoc]; exact o12, by rw [List.length_append, h.il]; rfl, by rw [List.length_append, h.ll]; rfl, fun j hj => ?_, ?_, fun j hj hjM => ?_, fun k hk' => ?_, fun k hk' => ?_, ap, ?_⟩
  · by_cases e : j = kk
    · subst e
      have e0 : (ivs ++ [rv j]).getD j nilV = rv j := by have := hget2 ivs [rv j] 0; rw [h.il] at this; exact this
      have e1 : (lvs ++ [G1, G2, G3]).getD (3 * j) nilV = G1 := by have := hget2 lvs [G1, G2, G3] 0; rw [h.ll] at this; exact this
      have e2 : (lvs ++ [G1, G2, G3]).getD (3 * j + 1) nilV = G2 := by have := hget2 lvs [G1, G2, G3] 1; rw [h.ll] at this; exact this
      have e3 : (lvs ++ [G1, G2, G3]).getD (3 * j + 2) nilV = G3 := by have := hget2 lvs [G1, G2, G3] 2; rw [h.ll] at this; exact this
      rw [e0, e1, e2, e3]
      exact mk
    · rw [hget ivs _ j (by rw [h.il]; omega), hget lvs _ (3 * j) (by rw [h.ll]; omega), hget lvs _ (3 * j + 1) (by rw [h.ll]; omega), hget lvs _ (3 * j + 2) (by rw [h.ll]; omega)]
      exact (h.marked j (by omega)).far cg (htyp j e (by omega))
  · have : ((List.range M).map (fun j => if j < kk then nilV else rv j)).set kk nilV = (List.range M).map (fun j => if j < kk + 1 then nilV else rv j) := by
      apply List.ext_getElem?
      intro j
      by_cases e : j = kk
      · subst e
        rw [List.getElem?_set_self (by simpa using hk), List.getElem?_map, List.getElem?_range hk]
        simp
      · rw [List.getElem?_set_ne (fun x => e x.symm), List.getElem?_map, List.getElem?_map]
        by_cases hjM : j < M
        · rw [List.getElem?_range hjM]
          simp only [Option.map_some, Option.some.injEq]
          by_cases h1 : j < kk
          · rw [if_pos h1, if_pos (by omega)]
          · rw [if_neg h1, if_neg (by omega)]
        · rw [List.getElem?_eq_none (by simp; omega)]; rfl
    rw [← this]; exact sp
  · have hr := h.rows j (by omega) hjM
    exact owns_of_block hr (fun k hk' => cg.block k (hr.lt k hk').2 (fun x => by
      rcases htyp j (by omega) hjM k x with ⟨h1, _⟩ | ⟨cs, t, h1, h2⟩
      · exact h1 hk'
      · exact owns_other hr h1 (fun e => h2 e.symm) hk'))
  · rcases b11 k hk' with h1 | h1
    · exact h.b11 k h1
    · exact Or.inr h1
  · rcases b12 k hk' with h1 | h1
    · exact h.b12 k h1
    · exact Or.inr h1
  · refine h.chg.trans cg (fun k hlt hs => ?_)
    rcases hs with hs | hs | hs | hs | hs
    · exact Or.inl hs
    · rcases h.b11 k hs with h1 | h1
      · exact Or.inr (Or.inl h1)
      · omega
    · rcases h.b12 k hs with h1 | h1
      · exact Or.inr (Or.inr (Or.inl h1))
      · omega
    · exact Or.inr (Or.inr (Or.inr (Or.inr ⟨kk, hk, hs⟩)))
    · exact Or.inr (Or.inr (Or.inr (Or.inl hs)))

end Go.Proofs.YtnjaofkieajnlaaGreat

/- The statement's own markRows, walked. -/
namespace Go.Proofs.YtnjaofkieajnlaaGreat
open Go.RowKit

/-- What marking a list of rows leaves. -/
structure MarkR (w0 w' : World) (wb : Nat) (f : Nat → Value) (iv lv ls : List Value) (v : Value) (M : Nat) (rv : Nat → Value) (v11 v12 v13 : Value) (ivs lvs : List Value) : Prop where
  row : w'.rowIs wb 39 14 (fun i => if i = 13 then v13 else if i = 12 then v12 else if i = 11 then v11 else f i)
  i11 : w'.ownsRow 0 63 1 v11 (iv.length + M) (iv ++ ivs)
  i12 : w'.ownsRow 0 63 1 v12 (lv.length + 3 * M) (lv ++ lvs)
  i13 : w'.ownsRow 0 32 1 v13 (ls.length + 1) (ls ++ [v])
  il : ivs.length = M
  ll : lvs.length = 3 * M
  marked : ∀ j, j < M → MarkedI w0.heap.size w' (rv j) (-1 - ((iv.length + j : Nat) : Int)) (ivs.getD j nilV) (lvs.getD (3 * j) nilV) (lvs.getD (3 * j + 1) nilV) (lvs.getD (3 * j + 2) nilV)
  nils : RowFull w' 63 v M nilV
  b11 : ∀ k, v11.ownBlock = some k → (f 11).ownBlock = some k ∨ w0.heap.size ≤ k
  b12 : ∀ k, v12.ownBlock = some k → (f 12).ownBlock = some k ∨ w0.heap.size ≤ k
  b13 : ∀ k, v13.ownBlock = some k → (f 13).ownBlock = some k ∨ w0.heap.size ≤ k
  apart : ∀ k, v11.ownBlock = some k → v12.ownBlock ≠ some k
  chg : Chg (fun k => k = wb ∨ (f 11).ownBlock = some k ∨ (f 12).ownBlock = some k ∨ (f 13).ownBlock = some k ∨ fpRows v M rv k) w0 w'

set_option maxRecDepth 100000 in
set_option maxHeartbeats 16000000 in
theorem markRows_any (wb : Nat) (f : Nat → Value) (iv lv ls : List Value) (v : Value) (M : Nat) (rv : Nat → Value) (L : Nat → List Nat) (w : World) (hrow : w.rowIs wb 39 14 f) (h11 : w.ownsRow 0 63 1 (f 11) iv.length iv) (h12 : w.ownsRow 0 63 1 (f 12) lv.length lv) (h13 : w.ownsRow 0 32 1 (f 13) ls.length ls) (hne : ∀ k, (f 11).ownBlock = some k → (f 12).ownBlock ≠ some k) (hro : RowsOwn w v M rv L) (hv11 : ∀ k, v.ownBlock = some k → (f 11).ownBlock ≠ some k) (hv12 : ∀ k, v.ownBlock = some k → (f 12).ownBlock ≠ some k) (hM : M ≤ 20) (hL : ∀ i, i < M → 1 ≤ (L i).length ∧ (L i).length ≤ 1000) (b11 : iv.length ≤ 60000000) (b12 : lv.length ≤ 180000000) (b13 : ls.length ≤ 3000000) :
    Calls Tryz.prog 71 #[.pointer (some ⟨wb, 0, none⟩), v] w fun e w' => (∃ u, e = .returned u) ∧ ∃ v11 v12 v13 ivs lvs, MarkR w w' wb f iv lv ls v M rv v11 v12 v13 ivs lvs := by
  obtain ⟨j0, gi, gz0, gz1, gz2⟩ := info_parts Tryz.infoIs
  obtain ⟨k0, ki, kz0, kz1, kz2⟩ := info_parts Tryz.infoIss
  obtain ⟨n0, ni, nz0, nz1, nz2⟩ := info_parts Tryz.infoInt
  obtain ⟨rb, hrb⟩ := rowIs_block hrow
  have hvw : v.ownBlock ≠ some wb := owns_other hro.spine hrb (by decide)
  have h13w : (f 13).ownBlock ≠ some wb := owns_other h13 hrb (by decide)
  have h13lt : ∀ k, (f 13).ownBlock = some k → k < w.heap.size := fun k hk => (h13.lt k hk).2
  have hwl := hrow.lt
  have hst : MR w w wb f iv lv v M rv L 0 (f 11) (f 12) [] [] := ⟨hrow.congr (fun i _ => by
      by_cases e : i = 12
      · rw [if_pos e, e]
      · rw [if_neg e]
        by_cases e2 : i = 11
        · rw [if_pos e2, e2]
        · rw [if_neg e2]), by rw [List.append_nil]; exact h11, by rw [List.append_nil]; exact h12, rfl, rfl, fun j hj => absurd hj (Nat.not_lt_zero _), by
      have : (List.range M).map (fun j => if j < 0 then nilV else rv j) = (List.range M).map rv := List.map_congr_left (fun j _ => by rw [if_neg (Nat.not_lt_zero _)])
      rw [this]; exact hro.spine, fun j _ hj => hro.rows j hj, fun k hk => Or.inl hk, fun k hk => Or.inl hk, hne, Chg.refl _ _⟩
  have HF : Hid (∀ (W : World) (v11 v12 : Value) (ivs lvs : List Value), MR w W wb f iv lv v M rv L M v11 v12 ivs lvs → W.ownsRow 0 32 1 (f 13) ls.length ls) := hide (fun W v11 v12 ivs lvs h => owns_of_block h13 (fun k hk => h.chg.block k (h13lt k hk) (fun x => by
    rcases x with rfl | x | x | x | ⟨i, hi, x⟩
    · exact h13w hk
    · exact owns_apartT h13 h11 (by decide) x hk
    · exact owns_apartT h13 h12 (by decide) x hk
    · exact owns_apartT h13 hro.spine (by decide) x hk
    · exact owns_apartT h13 (hro.rows i hi) (by decide) x hk)))
  have HRO := hide hro
  obtain ⟨av, cv, hve⟩ := owns_shape hro.spine
  have Hve := hide hve
  have HL := hide hL
  clear hrow hrb hro hL h11 h12 h13
  go_enter Tryz.func71, Tryz.ntmps71
  rw [hve]
  clear hve
  go_wp2_with fail
  go_loopw [13] (fun kv wr => ∃ (kk : Nat) (v11 v12 : Value) (ivs lvs : List Value), kk ≤ M ∧ kv = .int .i64 (kk : Int) ∧ MR w wr wb f iv lv v M rv L kk v11 v12 ivs lvs) (fun kv _ => M - (intOf kv).toNat)
  case atStart => exact ⟨0, f 11, f 12, [], [], Nat.zero_le _, rfl, hst⟩
  case round =>
    clear hst
    obtain ⟨kk, v11, v12, ivs, lvs, hkk, rfl, hmr⟩ := hrel
    by_cases hlt : kk < M
    · obtain ⟨gs, cs, hvs, _, hgs⟩ := hmr.spine.form (by omega)
      have hve2 := Hve.out
      rw [hvs] at hve2
      simp only [Value.slice.injEq, true_and] at hve2
      obtain ⟨rfl, rfl⟩ := hve2
      have hr := hmr.rows kk (Nat.le_refl _) hlt
      have hLk := HL.out kk hlt
      obtain ⟨g, c, er, _, hgl⟩ := hr.form (by omega)
      obtain ⟨n, hn⟩ : ∃ n, n = (L kk).length := ⟨_, rfl⟩
      rw [← hn] at hr hLk er
      have hxl : (numsV (L kk)).length = n := by rw [numsV_length, hn]
      have hsp0 : wr.cell? ⟨gs, kk, none⟩ = some (rv kk) := by
        have h := hmr.spine
        rw [hvs] at h
        rw [h.cellAt kk (by omega), List.getElem?_map, List.getElem?_range hlt]
        simp
      obtain ⟨N, hN⟩ : ∃ N, N = iv.length + kk := ⟨_, rfl⟩
      have h11r := hmr.i11
      have h12r := hmr.i12
      rw [← hN] at h11r
      obtain ⟨a11, c11, e11⟩ := owns_shape h11r
      have q11 : wr.cell? ⟨wb, 11, none⟩ = some v11 := hmr.row.cell (i := 11) (by omega)
      obtain ⟨rbr, hrbr⟩ := rowIs_block hmr.row
      have hspr := hmr.spine
      have hrowr := hmr.row
      have hapr := hmr.apart
      have hvl : ∀ k, v.ownBlock = some k → k < w.heap.size := fun k hk => (HRO.out.spine.lt k hk).2
      have hv11r : ∀ k, v11.ownBlock = some k → v.ownBlock ≠ some k := fun k hk x => by
        rcases hmr.b11 k hk with h | h
        · exact hv11 k x h
        · have := hvl k x; omega
      have hv12r : ∀ k, v12.ownBlock = some k → v.ownBlock ≠ some k := fun k hk x => by
        rcases hmr.b12 k hk with h | h
        · exact hv12 k x h
        · have := hvl k x; omega
      have h11w : v11.ownBlock ≠ some wb := owns_other h11r hrbr (by decide)
      have h12w : v12.ownBlock ≠ some wb := owns_other h12r hrbr (by decide)
      have hrw : (rv kk).ownBlock ≠ some wb := owns_other hr hrbr (by decide)
      have hrl : ∀ k, (rv kk).ownBlock = some k → k < w.heap.size := fun k hk => HRO.out.lt (Or.inr ⟨kk, hlt, hk⟩)
      have hws : w.heap.size ≤ wr.heap.size := hmr.chg.size
      have HMR := hide hmr
      have HNN := hide hN
      have HER := hide er
      have hN2 : N ≤ 60000020 := by omega
      have hlv2 : lv.length + 3 * kk ≤ 180000060 := by omega
      obtain ⟨N12, hN12⟩ : ∃ N12, N12 = lv.length + 3 * kk := ⟨_, rfl⟩
      rw [← hN12] at h12r hlv2
      have HN12 := hide hN12
      obtain ⟨xs, hxs⟩ : ∃ xs, xs = numsV (L kk) := ⟨_, rfl⟩
      rw [← hxs] at hr hxl
      obtain ⟨y11, hy11⟩ : ∃ y, y = iv ++ ivs := ⟨_, rfl⟩
      rw [← hy11] at h11r
      have HY11 := hide hy11
      obtain ⟨y12, hy12⟩ : ∃ y, y = lv ++ lvs := ⟨_, rfl⟩
      rw [← hy12] at h12r
      have HY12 := hide hy12
      obtain ⟨ysp, hysp⟩ : ∃ y, y = (List.range M).map (fun j => if j < kk then nilV else rv j) := ⟨_, rfl⟩
      rw [← hysp] at hspr
      have HYS := hide hysp
      obtain ⟨r, hr0⟩ : ∃ r, r = rv kk := ⟨_, rfl⟩
      rw [← hr0] at hr hsp0 hrw hrl
      rw [← hr0] at HER
      have HR0 := hide hr0
      have q11' := q11
      rw [e11] at q11'
      have er2 := HER.out
      have hsp1 := hsp0
      rw [er2] at hsp1
      have i1 : (0 : Int) ≤ (kk : Int) := by omega
      have i2 : (kk : Int) < (M : Int) := by omega
      clear hmr hn hN hN12 hxs hy11 hy12 hysp hr0 hgs hsp0 q11 e11 er er2
      have HVS := hide hvs
      clear hvs
      go_wp2_with fail
      obtain ⟨m, hm⟩ : ∃ m : Int, m = -1 - (N : Int) := ⟨_, rfl⟩
      rw [← hm]
      have Hm := hide hm
      clear hm q11' hsp1
      obtain ⟨wo, hwo⟩ : ∃ wo, wo = wr := ⟨_, rfl⟩
      subst hwo
      go_loopw [28] (fun iv' wi => ∃ i : Nat, i ≤ n ∧ iv' = .int .i64 (i : Int) ∧ wi.ownsRow 0 3 1 (.slice (some ⟨g, 0, none⟩) n c) n (List.replicate i (.int .i64 m) ++ xs.drop i) ∧ Chg (fun k => k = g) wo wi) (fun iv' _ => n - (intOf iv').toNat)
      case atStart => exact ⟨0, Nat.zero_le _, rfl, by rw [List.drop_zero, ← HER.out]; exact hr, Chg.refl _ _⟩
      case round =>
        obtain ⟨i, hi, rfl, hown, hcg⟩ := hrel
        by_cases hil : i < n
        · obtain ⟨old, c0⟩ : ∃ old, wr.cell? ⟨g, i, none⟩ = some old := ⟨_, by rw [hown.cellAt i (by omega), List.getElem?_eq_getElem (by simp; omega)]⟩
          have f0 := hown.frozenAt i
          have hst := (hown.stored i (.int .i64 m)).1
          rw [fill_nums xs (.int .i64 m) i (by omega)] at hst
          have hcg2 := hcg.setCell (a := ⟨g, i, none⟩) (Or.inr rfl) (.int .i64 m)
          have k1 : (0 : Int) ≤ (i : Int) := by omega
          have k2 : (i : Int) < (n : Int) := by omega
          clear hown hcg
          go_wp2_with fail
          go_roundw
          case rel => exact ⟨i + 1, by omega, by go_num, hst, hcg2⟩
          case measure => simp [intOf]; omega
        · have hin : i = n := by omega
          have k2 : ¬ (i : Int) < (n : Int) := by omega
          have hrg : r.ownBlock = some g := by rw [HER.out]; rfl
          have hrv : (Value.slice (some ⟨g, 0, none⟩) n c) = r := HER.out.symm
          have hfull : RowFull wr 3 r n (.int .i64 m) := by
            rw [hin, List.drop_of_length_le (by omega), List.append_nil, hrv] at hown
            exact hown
          have hfarg : ∀ {e : TypeId} {x : Value} {n' : Nat} {ys : List Value}, wo.ownsRow 0 e 1 x n' ys → e ≠ 3 → wr.ownsRow 0 e 1 x n' ys := fun h hne' => owns_of_block h (fun k hk => hcg.block k (h.lt k hk).2 (fun e => owns_apartT h hr hne' (by rw [hrg, e]) hk))
          have h11a := hfarg h11r (by decide)
          have h12a := hfarg h12r (by decide)
          have hspa := hfarg hspr (by decide)
          have hgw : g ≠ wb := fun e => hrw (by rw [hrg, e])
          have hrowa := hrowr.of_block (hcg.block wb hrowr.lt (fun e => hgw e.symm))
          have hca : Chg (fun k => k = wb ∨ v11.ownBlock = some k ∨ v12.ownBlock = some k ∨ r.ownBlock = some k ∨ v.ownBlock = some k) wo wr := hcg.mono (fun k _ e => Or.inr (Or.inr (Or.inr (Or.inl (by rw [hrg, e])))))
          have hwsa : w.heap.size ≤ wr.heap.size := Nat.le_trans hws hcg.size
          have hne11 : ∀ k, v11.ownBlock = some k → r.ownBlock ≠ some k := fun k hk => owns_apartT hfull h11a (by decide) hk
          have hne12 : ∀ k, v12.ownBlock = some k → r.ownBlock ≠ some k := fun k hk => owns_apartT hfull h12a (by decide) hk
          have hnesp : ∀ k, v.ownBlock = some k → r.ownBlock ≠ some k := fun k hk => owns_apartT hfull hspa (by decide) hk
          clear hfarg hcg hown hin hil hr h11r h12r hspr hrowr hrbr
          clear hrv hrg hgw
          go_wp2_with (at_builtin; refine wpList_append_marks _ rfl (.tmp 36) (.tmp 38) 63 rfl 3 n0 (.int .i64 0) 8 Tryz.underlying63 ni nz0 nz1 nz2 rfl r n (.int .i64 m) HER.out.symm rfl (hfull.on ((Below.refl wr.heap.size wr).alloc (Nat.le_refl _) (.cells #[.int .i64 m] 3))) ⟨wr.heap.size, 0, none⟩ 1 1 (by decide) rfl (news_rep _ _ 1 _ _ _ rfl (heap_alloc_new wr _)) (by unfold maxLen; omega) (by omega) ?_)
          intro g1 c1 w3 r1 k1 gr1 at1 lt1
          have gr1' := grown_alloc gr1
          have hfull3 := k1 _ _ (hfull.on ((Below.refl wr.heap.size wr).alloc (Nat.le_refl _) (.cells #[.int .i64 m] 3)))
          have h11b := owns_keptT h11a gr1' hne11
          have h12b := owns_keptT h12a gr1' hne12
          have hspb := owns_keptT hspa gr1' hnesp
          have hrowb := hrowa.of_block (gr1'.block wb hrowa.lt (fun x => hrw x.symm))
          have hcb := hca.grown gr1' (fun k e => Or.inr (Or.inr (Or.inr (Or.inr (Or.inl e)))))
          have hwsb : w.heap.size ≤ w3.heap.size := Nat.le_trans hwsa gr1'.size
          have bb1 : ∀ k, (Value.slice (some ⟨g1, 0, none⟩) (n + 1) c1).ownBlock = some k → r.ownBlock = some k ∨ w.heap.size ≤ k := fun k hk => by
            have hk' : g1 = k := by simpa [Value.ownBlock] using hk
            rcases at1 with h | h
            · exact Or.inl (by rw [h, hk'])
            · right; omega
          clear gr1 k1 gr1' hfull h11a h12a hspa hrowa hca hwsa at1 lt1
          go_wp2_with (at_builtin; refine wpList_append_marks _ rfl (.tmp 40) (.tmp 43) 63 rfl 3 n0 (.int .i64 0) 8 Tryz.underlying63 ni nz0 nz1 nz2 rfl r n (.int .i64 m) HER.out.symm rfl (hfull3.on ((Below.refl w3.heap.size w3).alloc (Nat.le_refl _) (.cells #[.int .i64 m, .int .i64 m] 3))) ⟨w3.heap.size, 0, none⟩ 2 2 (by decide) rfl (news_rep _ _ 2 _ _ _ rfl (heap_alloc_new w3 _)) (by unfold maxLen; omega) (by omega) ?_)
          intro g2 c2 w4 r2 k2' gr2 at2 lt2
          have gr2' := grown_alloc gr2
          have hbA3 := (Below.refl w3.heap.size w3).alloc (Nat.le_refl _) (.cells #[.int .i64 m, .int .i64 m] 3)
          have hfull4 := k2' _ _ (hfull3.on hbA3)
          have r14 := k2' _ _ (RowFull.on r1 hbA3)
          have h11c := owns_keptT h11b gr2' hne11
          have h12c := owns_keptT h12b gr2' hne12
          have hspc := owns_keptT hspb gr2' hnesp
          have hrowc := hrowb.of_block (gr2'.block wb hrowb.lt (fun x => hrw x.symm))
          have hcc := hcb.grown gr2' (fun k e => Or.inr (Or.inr (Or.inr (Or.inr (Or.inl e)))))
          have hwsc : w.heap.size ≤ w4.heap.size := Nat.le_trans hwsb gr2'.size
          have bb2 : ∀ k, (Value.slice (some ⟨g2, 0, none⟩) (n + 2) c2).ownBlock = some k → r.ownBlock = some k ∨ w.heap.size ≤ k := fun k hk => by
            have hk' : g2 = k := by simpa [Value.ownBlock] using hk
            rcases at2 with h | h
            · exact Or.inl (by rw [h, hk'])
            · right; omega
          clear gr2 k2' gr2' hfull3 h11b h12b hspb hrowb hcb hwsb at2 lt2 r1 hbA3
          go_wp2_with (at_builtin; refine wpList_append_marks _ rfl (.tmp 45) (.tmp 49) 63 rfl 3 n0 (.int .i64 0) 8 Tryz.underlying63 ni nz0 nz1 nz2 rfl r n (.int .i64 m) HER.out.symm rfl (hfull4.on ((Below.refl w4.heap.size w4).alloc (Nat.le_refl _) (.cells #[.int .i64 m, .int .i64 m, .int .i64 m] 3))) ⟨w4.heap.size, 0, none⟩ 3 3 (by decide) rfl (news_rep _ _ 3 _ _ _ rfl (heap_alloc_new w4 _)) (by unfold maxLen; omega) (by omega) ?_)
          intro g3 c3 w5 r3 k3 gr3 at3 lt3
          have gr3' := grown_alloc gr3
          have hbA4 := (Below.refl w4.heap.size w4).alloc (Nat.le_refl _) (.cells #[.int .i64 m, .int .i64 m, .int .i64 m] 3)
          have hfull5 := k3 _ _ (hfull4.on hbA4)
          have r15 := k3 _ _ (RowFull.on r14 hbA4)
          have r25 := k3 _ _ (RowFull.on r2 hbA4)
          have h11d := owns_keptT h11c gr3' hne11
          have h12d := owns_keptT h12c gr3' hne12
          have hspd := owns_keptT hspc gr3' hnesp
          have hrowd := hrowc.of_block (gr3'.block wb hrowc.lt (fun x => hrw x.symm))
          have hcd := hcc.grown gr3' (fun k e => Or.inr (Or.inr (Or.inr (Or.inr (Or.inl e)))))
          have hwsd : w.heap.size ≤ w5.heap.size := Nat.le_trans hwsc gr3'.size
          have bb3 : ∀ k, (Value.slice (some ⟨g3, 0, none⟩) (n + 3) c3).ownBlock = some k → r.ownBlock = some k ∨ w.heap.size ≤ k := fun k hk => by
            have hk' : g3 = k := by simpa [Value.ownBlock] using hk
            rcases at3 with h | h
            · exact Or.inl (by rw [h, hk'])
            · right; omega
          clear gr3 k3 gr3' hfull4 h11c h12c hspc hrowc hcc hwsc at3 lt3 r14 r2 hbA4
          obtain ⟨G1, hG1⟩ : ∃ G, G = Value.slice (some ⟨g1, 0, none⟩) (n + 1) c1 := ⟨_, rfl⟩
          obtain ⟨G2, hG2⟩ : ∃ G, G = Value.slice (some ⟨g2, 0, none⟩) (n + 2) c2 := ⟨_, rfl⟩
          obtain ⟨G3, hG3⟩ : ∃ G, G = Value.slice (some ⟨g3, 0, none⟩) (n + 3) c3 := ⟨_, rfl⟩
          rw [← hG1] at r15 bb1
          rw [← hG2] at r25 bb2
          rw [← hG3] at r3 bb3
          have hone1 : G1.oneCell' = true := by rw [hG1]; rfl
          have hone2 : G2.oneCell' = true := by rw [hG2]; rfl
          have hone3 : G3.oneCell' = true := by rw [hG3]; rfl
          have honer : r.oneCell' = true := by rw [HER.out]; rfl
          have HG1 := hide hG1
          have HG2 := hide hG2
          have HG3 := hide hG3
          clear hG1 hG2 hG3
          have q11 : w5.cell? ⟨wb, 11, none⟩ = some v11 := hrowd.cell (i := 11) (by omega)
          have f11 := hrowd.frozen 11
          have hwl5 := hrowd.lt
          go_wp2_with (at_builtin; refine wpList_append_lies _ rfl (.tmp 55) (.tmp 57) 32 rfl 0 63 j0 (.slice none 0 0) 1 24 Tryz.underlying32 gi gz0 gz1 gz2 rfl (by decide) _ _ _ rfl (h11d.alloc _) ⟨w5.heap.size, 0, none⟩ 1 1 [r] (by rfl) rfl (by rw [HER.out]; exact one_news _ _ _) (by intro u hu; simp at hu; rw [hu]; exact honer) (by decide) (by unfold maxLen; omega) (by omega) (Nat.zero_le _) (w5.heap.size + 1) (by simp) ?_)
          intro g6 c6 w6 hown6 gr6 at6 lt6
          have gr6' := grown_alloc gr6
          have p11 := (gr6'.cell_far ⟨wb, 11, none⟩ hwl5 (fun e => h11w e.symm)).trans q11
          have z11 := (gr6'.frozen_far ⟨wb, 11, none⟩ hwl5 (fun e => h11w e.symm)).trans f11
          have h12e := owns_keptT h12d gr6' (fun k hk x => hapr k x hk)
          have hspe := owns_keptT hspd gr6' (fun k hk x => hv11r k x hk)
          have far6 : ∀ {x : Value} {n' : Nat}, RowFull w5 3 x n' (.int .i64 m) → RowFull w6 3 x n' (.int .i64 m) := fun h => owns_keptT h gr6' (fun k hk x => owns_apartT h h11d (by decide) x hk)
          have s0 := far6 hfull5
          have s1 := far6 r15
          have s2 := far6 r25
          have s3 := far6 r3
          have hrowe := hrowd.of_block (gr6'.block wb hwl5 (fun x => h11w x.symm))
          have hce := hcd.grown gr6' (fun k e => Or.inr (Or.inr (Or.inl e)))
          have hwse : w.heap.size ≤ w6.heap.size := Nat.le_trans hwsd gr6'.size
          have bb11 : ∀ k, (Value.slice (some ⟨g6, 0, none⟩) (N + 1) c6).ownBlock = some k → v11.ownBlock = some k ∨ w.heap.size ≤ k := fun k hk => by
            have hk' : g6 = k := by simpa [Value.ownBlock] using hk
            rcases at6 with h | h
            · exact Or.inl (by rw [h, hk'])
            · right; omega
          have hap6 : ∀ k, (Value.slice (some ⟨g6, 0, none⟩) (N + 1) c6).ownBlock = some k → v12.ownBlock ≠ some k ∧ v.ownBlock ≠ some k := fun k hk => by
            have hk' : g6 = k := by simpa [Value.ownBlock] using hk
            rcases at6 with h | h
            · exact ⟨hapr k (by rw [h, hk']), hv11r k (by rw [h, hk'])⟩
            · exact ⟨fun x => by have := (h12d.lt k x).2; omega, fun x => by have := (hspd.lt k x).2; omega⟩
          have hV11w : (Value.slice (some ⟨g6, 0, none⟩) (N + 1) c6).ownBlock ≠ some wb := fun x => by
            rcases bb11 wb x with h | h
            · exact h11w h
            · omega
          obtain ⟨rb6, hrb6⟩ := rowIs_block hrowe
          clear gr6 gr6' hfull5 r15 r25 r3 h11d h12d hspd hrowd hcd hwsd at6 lt6 q11 f11 far6
          have hrowf := hrowe.set 11 (.slice (some ⟨g6, 0, none⟩) (N + 1) c6)
          have o11f : (w6.setCell ⟨wb, 11, none⟩ (.slice (some ⟨g6, 0, none⟩) (N + 1) c6)).ownsRow 0 63 1 (.slice (some ⟨g6, 0, none⟩) (N + 1) c6) (N + 1) (y11 ++ [r]) := owns_of_block hown6 (fun k hk => heap_setCell_other _ _ _ _ (fun e => hV11w (by rw [hk, e])))
          have h12f : (w6.setCell ⟨wb, 11, none⟩ (.slice (some ⟨g6, 0, none⟩) (N + 1) c6)).ownsRow 0 63 1 v12 N12 y12 := owns_of_block h12e (fun k hk => heap_setCell_other _ _ _ _ (fun e => h12w (by rw [hk, e])))
          have hspf : (w6.setCell ⟨wb, 11, none⟩ (.slice (some ⟨g6, 0, none⟩) (N + 1) c6)).ownsRow 0 63 1 v M ysp := owns_of_block hspe (fun k hk => heap_setCell_other _ _ _ _ (fun e => hvw (by rw [hk, e])))
          have far7 : ∀ {x : Value} {n' : Nat}, RowFull w6 3 x n' (.int .i64 m) → RowFull (w6.setCell ⟨wb, 11, none⟩ (.slice (some ⟨g6, 0, none⟩) (N + 1) c6)) 3 x n' (.int .i64 m) := fun h => owns_of_block h (fun k hk => heap_setCell_other _ _ _ _ (fun e => owns_other h hrb6 (by decide) (by rw [hk, e])))
          have t0 := far7 s0
          have t1 := far7 s1
          have t2 := far7 s2
          have t3 := far7 s3
          have hcf := hce.setCell (a := ⟨wb, 11, none⟩) (Or.inr (Or.inl rfl)) (.slice (some ⟨g6, 0, none⟩) (N + 1) c6)
          have hwsf : w.heap.size ≤ (w6.setCell ⟨wb, 11, none⟩ (.slice (some ⟨g6, 0, none⟩) (N + 1) c6)).heap.size := by simpa using hwse
          clear far7 hrb6 s0 s1 s2 s3 hce hwse hown6 h12e hspe hrowe rb6
          go_upto_region 14 with fail
          generalize w6.setCell ⟨wb, 11, none⟩ (.slice (some ⟨g6, 0, none⟩) (N + 1) c6) = w7 at *
          have q12 : w7.cell? ⟨wb, 12, none⟩ = some v12 := by have := hrowf.cell (i := 12) (by omega); exact this
          have f12 := hrowf.frozen 12
          have hwl7 := hrowf.lt
          clear p11 z11
          go_wp2_with (at_builtin; refine wpList_append_lies _ rfl (.tmp 65) (.tmp 69) 32 rfl 0 63 j0 (.slice none 0 0) 1 24 Tryz.underlying32 gi gz0 gz1 gz2 rfl (by decide) _ _ _ rfl (h12f.alloc _) ⟨w7.heap.size, 0, none⟩ 3 3 [G1, G2, G3] (by rfl) rfl (by rw [HG1.out, HG2.out, HG3.out]; exact World.news_of_block (cs := #[_, _, _]) (heap_alloc_new w7 _)) (by intro u hu; simp at hu; rcases hu with rfl | rfl | rfl <;> assumption) (by decide) (by unfold maxLen; omega) (by omega) (Nat.zero_le _) (w7.heap.size + 1) (by simp) ?_)
          intro g8 c8 w8 hown8 gr8 at8 lt8
          have gr8' := grown_alloc gr8
          have p12 := (gr8'.cell_far ⟨wb, 12, none⟩ hwl7 (fun e => h12w e.symm)).trans q12
          have z12 := (gr8'.frozen_far ⟨wb, 12, none⟩ hwl7 (fun e => h12w e.symm)).trans f12
          have o11g := owns_keptT o11f gr8' (fun k hk x => (hap6 k hk).1 x)
          have hspg := owns_keptT hspf gr8' (fun k hk x => hv12r k x hk)
          have far8 : ∀ {x : Value} {n' : Nat}, RowFull w7 3 x n' (.int .i64 m) → RowFull w8 3 x n' (.int .i64 m) := fun h => owns_keptT h gr8' (fun k hk x => owns_apartT h h12f (by decide) x hk)
          have s0 := far8 t0
          have s1 := far8 t1
          have s2 := far8 t2
          have s3 := far8 t3
          have hrowg := hrowf.of_block (gr8'.block wb hwl7 (fun x => h12w x.symm))
          have hcg8 := hcf.grown gr8' (fun k e => Or.inr (Or.inr (Or.inr (Or.inl e))))
          have hwsg : w.heap.size ≤ w8.heap.size := Nat.le_trans hwsf gr8'.size
          have bb12 : ∀ k, (Value.slice (some ⟨g8, 0, none⟩) (N12 + 3) c8).ownBlock = some k → v12.ownBlock = some k ∨ w.heap.size ≤ k := fun k hk => by
            have hk' : g8 = k := by simpa [Value.ownBlock] using hk
            rcases at8 with h | h
            · exact Or.inl (by rw [h, hk'])
            · right; omega
          have hap8 : ∀ k, (Value.slice (some ⟨g8, 0, none⟩) (N12 + 3) c8).ownBlock = some k → (Value.slice (some ⟨g6, 0, none⟩) (N + 1) c6).ownBlock ≠ some k ∧ v.ownBlock ≠ some k := fun k hk => by
            have hk' : g8 = k := by simpa [Value.ownBlock] using hk
            rcases at8 with h | h
            · exact ⟨fun x => (hap6 k x).1 (by rw [h, hk']), hv12r k (by rw [h, hk'])⟩
            · exact ⟨fun x => by have := (o11f.lt k x).2; omega, fun x => by have := (hspf.lt k x).2; omega⟩
          have hV12w : (Value.slice (some ⟨g8, 0, none⟩) (N12 + 3) c8).ownBlock ≠ some wb := fun x => by
            rcases bb12 wb x with h | h
            · exact h12w h
            · omega
          obtain ⟨rb8, hrb8⟩ := rowIs_block hrowg
          have hrowh := hrowg.set 12 (.slice (some ⟨g8, 0, none⟩) (N12 + 3) c8)
          have o11h : (w8.setCell ⟨wb, 12, none⟩ (.slice (some ⟨g8, 0, none⟩) (N12 + 3) c8)).ownsRow 0 63 1 (.slice (some ⟨g6, 0, none⟩) (N + 1) c6) (N + 1) (y11 ++ [r]) := owns_of_block o11g (fun k hk => heap_setCell_other _ _ _ _ (fun e => hV11w (by rw [hk, e])))
          have o12h : (w8.setCell ⟨wb, 12, none⟩ (.slice (some ⟨g8, 0, none⟩) (N12 + 3) c8)).ownsRow 0 63 1 (.slice (some ⟨g8, 0, none⟩) (N12 + 3) c8) (N12 + 3) (y12 ++ [G1, G2, G3]) := owns_of_block hown8 (fun k hk => heap_setCell_other _ _ _ _ (fun e => hV12w (by rw [hk, e])))
          have hsph : (w8.setCell ⟨wb, 12, none⟩ (.slice (some ⟨g8, 0, none⟩) (N12 + 3) c8)).ownsRow 0 63 1 v M ysp := owns_of_block hspg (fun k hk => heap_setCell_other _ _ _ _ (fun e => hvw (by rw [hk, e])))
          have far9 : ∀ {x : Value} {n' : Nat}, RowFull w8 3 x n' (.int .i64 m) → RowFull (w8.setCell ⟨wb, 12, none⟩ (.slice (some ⟨g8, 0, none⟩) (N12 + 3) c8)) 3 x n' (.int .i64 m) := fun h => owns_of_block h (fun k hk => heap_setCell_other _ _ _ _ (fun e => owns_other h hrb8 (by decide) (by rw [hk, e])))
          have x0 := far9 s0
          have x1 := far9 s1
          have x2 := far9 s2
          have x3 := far9 s3
          have hch := hcg8.setCell (a := ⟨wb, 12, none⟩) (Or.inr (Or.inl rfl)) (.slice (some ⟨g8, 0, none⟩) (N12 + 3) c8)
          clear far9 far8 s0 s1 s2 s3 t0 t1 t2 t3 hrb8 rb8 hown8 o11f o11g h12f hspf hspg hrowf hrowg hcf hcg8 hwsf gr8 gr8' at8 lt8 q12 f12
          go_upto_region 15 with fail
          generalize w8.setCell ⟨wb, 12, none⟩ (.slice (some ⟨g8, 0, none⟩) (N12 + 3) c8) = w9 at *
          clear p12 z12
          rw [HVS.out] at hsph
          have hst9 := hsph.stored kk nilV
          obtain ⟨old, c9⟩ : ∃ old, w9.cell? ⟨gs, kk, none⟩ = some old := ⟨_, by rw [hsph.cellAt kk (by omega), List.getElem?_eq_getElem (by rw [HYS.out]; simp; omega)]⟩
          have f9 := hsph.frozenAt kk
          obtain ⟨rb9, hrb9⟩ := owns_block hsph (k := gs) rfl
          have hgsw : gs ≠ wb := fun e => hvw (by rw [HVS.out, ← e]; rfl)
          have hmr2 : MR w (w9.setCell ⟨gs, kk, none⟩ nilV) wb f iv lv v M rv L (kk + 1) (.slice (some ⟨g6, 0, none⟩) (N + 1) c6) (.slice (some ⟨g8, 0, none⟩) (N12 + 3) c8) (ivs ++ [rv kk]) (lvs ++ [G1, G2, G3]) := by
            have farA : ∀ {x : Value} {n' : Nat}, RowFull w9 3 x n' (.int .i64 m) → RowFull (w9.setCell ⟨gs, kk, none⟩ nilV) 3 x n' (.int .i64 m) := fun h => owns_of_block h (fun k hk => heap_setCell_other _ _ _ _ (fun e => owns_other h hrb9 (by decide) (by rw [hk, e])))
            have hmm : m = -1 - ((iv.length + kk : Nat) : Int) := by rw [← HNN.out]; exact Hm.out
            have hvgs : v.ownBlock = some gs := by rw [HVS.out]; rfl
            refine HMR.out.step hlt HRO.out (w9 := w9.setCell ⟨gs, kk, none⟩ nilV) ?_ ?_ ?_ ?_ ?_ bb11 bb12 (fun k hk x => (hap8 k x).1 hk) ?_
            · refine (hrowh.of_block (heap_setCell_other _ _ _ _ (fun e => hgsw e.symm))).congr (fun i _ => ?_)
              show (if i = 12 then Value.slice (some ⟨g8, 0, none⟩) (N12 + 3) c8 else if i = 11 then Value.slice (some ⟨g6, 0, none⟩) (N + 1) c6 else if i = 12 then v12 else if i = 11 then v11 else f i) = _
              by_cases e : i = 12
              · rw [if_pos e, if_pos e]
              · rw [if_neg e, if_neg e, if_neg e]
                by_cases e2 : i = 11
                · rw [if_pos e2, if_pos e2]
                · rw [if_neg e2, if_neg e2, if_neg e2]
            · rw [← HY11.out, ← HR0.out, ← HNN.out]
              exact owns_of_block o11h (fun k hk => heap_setCell_other _ _ _ _ (fun e => (hap6 k hk).2 (by rw [hvgs, e])))
            · rw [← HY12.out, ← HN12.out]
              exact owns_of_block o12h (fun k hk => heap_setCell_other _ _ _ _ (fun e => (hap8 k hk).2 (by rw [hvgs, e])))
            · rw [← hmm, ← HR0.out]
              exact ⟨⟨n, hLk.2, farA x0, farA x1, farA x2, farA x3⟩, fun k hk => Or.inl hk, bb1, bb2, bb3⟩
            · rw [← HYS.out, HVS.out]
              exact hst9.1
            · rw [← HR0.out]
              exact hch.setCell (a := ⟨gs, kk, none⟩) (Or.inr (Or.inr (Or.inr (Or.inr (Or.inr hvgs))))) nilV
          clear x0 x1 x2 x3 hch hsph o11h o12h hrowh hst9 hrb9 HMR HRO HYS HY11 HY12 bb1 bb2 bb3 bb11 bb12 hap6 hap8
          go_wp2_with fail
          go_roundw
          case rel => exact ⟨kk + 1, _, _, _, _, by omega, by go_num, hmr2⟩
          case measure => simp [intOf]; omega
    · have hkM : kk = M := by omega
      have i2 : ¬ (kk : Int) < (M : Int) := by omega
      rw [hkM] at hmr
      have h13r := HF.out wr v11 v12 ivs lvs hmr
      have q13 : wr.cell? ⟨wb, 13, none⟩ = some (f 13) := by have := hmr.row.cell (i := 13) (by omega); exact this
      have f13 := hmr.row.frozen 13
      have hwlr := hmr.row.lt
      have honev : v.oneCell' = true := by rw [Hve.out]; rfl
      obtain ⟨v13, hv13⟩ : ∃ x, x = f 13 := ⟨_, rfl⟩
      rw [← hv13] at q13 h13r h13w h13lt
      have HV13 := hide hv13
      have HMR := hide hmr
      have hws : w.heap.size ≤ wr.heap.size := hmr.chg.size
      clear hkM hlt hmr hv13 HL
      go_wp2_with (at_builtin; refine wpList_append_lies _ rfl (.tmp 81) (.tmp 83) 37 rfl 0 32 k0 (.slice none 0 0) 1 24 Tryz.underlying37 ki kz0 kz1 kz2 rfl (by decide) _ _ _ rfl (h13r.alloc _) ⟨wr.heap.size, 0, none⟩ 1 1 [v] (by rfl) rfl (by rw [Hve.out]; exact one_news _ _ _) (by intro u hu; simp at hu; rw [hu]; exact honev) (by decide) (by unfold maxLen; omega) (by omega) (Nat.zero_le _) (wr.heap.size + 1) (by simp) ?_)
      intro g6 c6 w6 hown6 gr6 at6 lt6
      have gr6' := grown_alloc gr6
      have p13 := (gr6'.cell_far ⟨wb, 13, none⟩ hwlr (fun e => h13w e.symm)).trans q13
      have z13 := (gr6'.frozen_far ⟨wb, 13, none⟩ hwlr (fun e => h13w e.symm)).trans f13
      have hend : ∃ x11 x12 x13 is' ls', MarkR w (w6.setCell ⟨wb, 13, none⟩ (.slice (some ⟨g6, 0, none⟩) (ls.length + 1) c6)) wb f iv lv ls v M rv x11 x12 x13 is' ls' := by
        have h := HMR.out
        have bb13 : ∀ k, (Value.slice (some ⟨g6, 0, none⟩) (ls.length + 1) c6).ownBlock = some k → (f 13).ownBlock = some k ∨ w.heap.size ≤ k := fun k hk => by
          have hk' : g6 = k := by simpa [Value.ownBlock] using hk
          rcases at6 with h | h
          · exact Or.inl (by rw [← HV13.out, h, hk'])
          · right; omega
        have hVw : (Value.slice (some ⟨g6, 0, none⟩) (ls.length + 1) c6).ownBlock ≠ some wb := fun x => by
          rcases bb13 wb x with h | h
          · rw [← HV13.out] at h; exact h13w h
          · omega
        have hrow6 := h.row.of_block (gr6'.block wb hwlr (fun x => h13w x.symm))
        obtain ⟨rb6, hrb6⟩ := rowIs_block hrow6
        have k11 := owns_keptT h.i11 gr6' (fun k hk x => owns_apartT h.i11 h13r (by decide) x hk)
        have k12 := owns_keptT h.i12 gr6' (fun k hk x => owns_apartT h.i12 h13r (by decide) x hk)
        have ksp := owns_keptT h.spine gr6' (fun k hk x => owns_apartT h.spine h13r (by decide) x hk)
        have hall : (List.range M).map (fun j => if j < M then nilV else rv j) = List.replicate M nilV := by
          apply List.ext_getElem?
          intro j
          rw [List.getElem?_map, List.getElem?_replicate]
          by_cases hj : j < M
          · rw [List.getElem?_range hj, if_pos hj]; simp [hj]
          · rw [List.getElem?_eq_none (by simp; omega), if_neg hj]; rfl
        rw [hall] at ksp
        have hcg6 : Chg (fun k => v13.ownBlock = some k ∨ k = wb) wr (w6.setCell ⟨wb, 13, none⟩ (.slice (some ⟨g6, 0, none⟩) (ls.length + 1) c6)) := ((Chg.refl (fun k => v13.ownBlock = some k ∨ k = wb) wr).grown gr6' (fun k e => Or.inr (Or.inl e))).setCell (a := ⟨wb, 13, none⟩) (Or.inr (Or.inr rfl)) _
        refine ⟨v11, v12, .slice (some ⟨g6, 0, none⟩) (ls.length + 1) c6, ivs, lvs, ?_⟩
        refine ⟨(hrow6.set 13 _).congr (fun i _ => rfl), owns_of_block k11 (fun k hk => heap_setCell_other _ _ _ _ (fun e => owns_other k11 hrb6 (by decide) (by rw [hk, e]))), owns_of_block k12 (fun k hk => heap_setCell_other _ _ _ _ (fun e => owns_other k12 hrb6 (by decide) (by rw [hk, e]))), owns_of_block hown6 (fun k hk => heap_setCell_other _ _ _ _ (fun e => hVw (by rw [hk, e]))), h.il, h.ll, fun j hj => (h.marked j hj).far hcg6 (fun k hs => ?_), owns_of_block ksp (fun k hk => heap_setCell_other _ _ _ _ (fun e => owns_other ksp hrb6 (by decide) (by rw [hk, e]))), h.b11, h.b12, bb13, h.apart, ?_⟩
        · right
          rcases hs with hs | rfl
          · obtain ⟨cc, hcc⟩ := owns_block h13r hs
            exact ⟨_, _, hcc, by decide⟩
          · obtain ⟨cc, hcc⟩ := rowIs_block h.row
            exact ⟨_, _, hcc, by decide⟩
        · refine (h.chg.mono (fun k _ hs => ?_)).trans hcg6 (fun k _ hs => ?_)
          · rcases hs with hs | hs | hs | hs
            · exact Or.inl hs
            · exact Or.inr (Or.inl hs)
            · exact Or.inr (Or.inr (Or.inl hs))
            · exact Or.inr (Or.inr (Or.inr (Or.inr hs)))
          · rcases hs with hs | hs
            · exact Or.inr (Or.inr (Or.inr (Or.inl (by rw [← HV13.out]; exact hs))))
            · exact Or.inl hs
      rw [Hve.out] at hend
      clear HMR hown6 gr6 gr6' at6 lt6 h13r q13 f13 HF HRO
      go_wp2_with fail
      go_end0
      exact ⟨⟨_, rfl⟩, hend⟩

end Go.Proofs.YtnjaofkieajnlaaGreat
