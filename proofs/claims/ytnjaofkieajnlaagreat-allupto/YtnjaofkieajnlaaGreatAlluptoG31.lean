/- Texts of the proof, part 32. -/
import Derived.Deep.RegionHeld3
import Derived.Test.YtnjaofkieajnlaaGreatAlluptoG14
import Derived.Test.YtnjaofkieajnlaaGreatAlluptoG26
import Derived.Test.YtnjaofkieajnlaaGreatAlluptoG30

/- The program's inbox: the first sheet. -/
namespace Go.Proofs.YtnjaofkieajnlaaGreat
open Go.RowKit

theorem zero_inb (w : World) : (zeroValue 94).run Tryz.prog w = .ok (.agg (inbL 0 0 0 0 0 0 0 (fun _ => kn0)).toArray) w := by kernel_rfl

theorem Tryz.sizeInb : (Tryz.prog.info? 94).map (·.size) = some 1666 := by kernel_rfl

noncomputable def builtInb (parts : Array (Nat × Value)) : Sem Value := Instr.build 94 parts

theorem build_maskInb (parts : Array (Nat × Value)) : Instr.build 94 parts = builtInb parts := rfl

theorem inb_build (c K M O S z : Nat) (w : World) : (builtInb #[(0, .int .i64 (c : Int)), (1, specV K M O S), (2, .int .i64 (z : Int))]).run Tryz.prog w = .ok (.agg (inbL c K M O S z 0 (fun _ => kn0)).toArray) w :=
  run_build (P := Tryz.prog) w 94 #[(0, .int .i64 (c : Int)), (1, specV K M O S), (2, .int .i64 (z : Int))] _ (built_inb c K M O S z)

attribute [local go_sem ↓] build_maskInb

theorem there_new (w : World) (cs : List Value) (t : TypeId) (n : Nat) (hn : cs.length = n) : (w.alloc (.cells cs.toArray t)).there w.heap.size 0 n := by
  have h := there_of_row (heap_alloc_new w (.cells cs.toArray t))
  rwa [show cs.toArray.size = n from by simp [hn]] at h

set_option maxRecDepth 100000 in
set_option maxHeartbeats 8000000 in
theorem lfirst_any (p : Nat) (tt : TypeId) (a c K M O S z i : Nat) (q : ByteArray) (w : World) (hK : 1 ≤ K ∧ K ≤ 20) (hM : 1 ≤ M ∧ M ≤ 20) (hO : 1 ≤ O ∧ O ≤ M) (hS : S ≤ 65535) (hz : 1 ≤ z ∧ z ≤ 16) (ha : a < c) (hc20 : c ≤ 20) (hi : i < K + M) (hq : q.size = z) (hin : InbAt w p tt 0 0 0 0 0 0 0 (fun _ => kn0)) :
    Calls Tryz.prog 98 #[.pointer (some ⟨p, 0, none⟩), .agg (shC a c K M O S z i q)] w fun e w' => e = .returned (.int .i64 (putE (left kn0 (ofs K M O S i) q) z)) ∧ (putE (left kn0 (ofs K M O S i) q) z = 0 → InbAt w' p tt c K M O S z c (fun j => if j = a then putK kn0 (ofs K M O S i) q else kn0)) ∧ (putE (left kn0 (ofs K M O S i) q) z ≠ 0 → Below w.heap.size w w') ∧ Chg (fun k => k = p) w w' := by
  have hnext : ∀ W r, InbAt W r 94 c K M O S z c (fun _ => kn0) → Calls Tryz.prog 99 #[.pointer (some ⟨r, 0, none⟩), .agg (shC a c K M O S z i q)] W fun e w' => e = .returned (.int .i64 (putE (left kn0 (ofs K M O S i) q) z)) ∧ InbAt w' r 94 c K M O S z c (fun j => if j = a then putK kn0 (ofs K M O S i) q else kn0) ∧ Chg (fun k => k = r) W w' := fun W r hW => lnext_put r 94 c K M O S z c (fun _ => kn0) a i q W ha (by omega) hK.2 hM.2 (kn0_ok K z) hz.2 hi hq hW
  have hnew := fun W => bnew_ok K M O S z W hK hM hO hS hz
  have hpl := hin.lt
  have hzb : ∀ w, (zeroValue 85).run Tryz.prog w = .ok (.agg zeroL.toArray) w := zero_box
  have hzi := zero_inb
  have hzl : zeroL.length = 83 := newL_length 0 0 0 (fun _ => 0)
  have hcl := newL_length K (K + M) z (ofs K M O S)
  have hone := newL_one K (K + M) z (ofs K M O S)
  have hnb := fun (W : World) (zs : List Value) (h : zs.length = 83) => newBox_off W zs h K (K + M) z (ofs K M O S)
  have hbu := inb_build c K M O S z
  have hil := inbL_length c K M O S z 0 (fun _ => kn0)
  have hio := inbL_one c K M O S z 0 (fun _ => kn0)
  have hi0 := fun W => inb_stored (inb_new W 94 0 0 0 0 0 0 0 (fun _ => kn0)) c K M O S z 0 (fun _ => kn0)
  have hzil := inbL_length 0 0 0 0 0 0 0 (fun _ => kn0)
  unfold newV at hnew
  generalize newL K (K + M) z (ofs K M O S) = cs at *
  generalize zeroL = zs at *
  generalize inbL c K M O S z 0 (fun _ => kn0) = il at *
  generalize inbL 0 0 0 0 0 0 0 (fun _ => kn0) = iz at *
  obtain ⟨ee, he⟩ : ∃ ee, ee = putE (left kn0 (ofs K M O S i) q) z := ⟨_, rfl⟩
  have hee : ee = 0 ∨ ee = 4 := by rw [he]; unfold putE; split <;> simp
  obtain ⟨k2, hk2⟩ : ∃ k2 : Nat → Kn, k2 = fun j => if j = a then putK kn0 (ofs K M O S i) q else kn0 := ⟨_, rfl⟩
  rw [← he, ← hk2] at hnext
  rw [← he, ← hk2]
  clear he hk2
  have hbA : Below w.heap.size w (w.alloc (shB a c K M O S z i q)) := (Below.refl w.heap.size w).alloc (Nat.le_refl _) _
  have hsA : (w.alloc (shB a c K M O S z i q)).heap[w.heap.size]? = some (shB a c K M O S z i q) := heap_alloc_new w _
  go_enter Tryz.func98, Tryz.ntmps98
  go_upto_region 1 with fail
  generalize w.alloc (shB a c K M O S z i q) = V at *
  obtain ⟨c0, c1, c2, c3, c4, c5, c6, c7, c8⟩ := sh_cells hsA
  go_wp2_with fail
  refine (hnew _).mono ?_
  rintro e w1 ⟨rfl, hb1⟩
  have hbw1 : Below w.heap.size w w1 := hbA.trans (hb1.mono hbA.size)
  have hs1 : w1.heap[w.heap.size]? = some (shB a c K M O S z i q) := block_on hsA hb1
  have hsw1 : w.heap.size < w1.heap.size := (Array.getElem?_eq_some_iff.1 hs1).1
  have hst := storeCells_run w1.heap.size cs (w1.alloc (.cells zs.toArray 85)) (by rw [hcl]; exact there_new w1 zs 85 83 hzl) hone
  have hbx := hnb w1 zs hzl
  have hbW : Below w.heap.size w ((w1.alloc (.cells zs.toArray 85)).setCells w1.heap.size 0 cs) := below_setCells (hbw1.alloc hbw1.size _) hbw1.size _ _
  have hsW : ((w1.alloc (.cells zs.toArray 85)).setCells w1.heap.size 0 cs).heap[w.heap.size]? = some (shB a c K M O S z i q) := by
    rw [heap_setCells_far _ _ _ _ _ (by omega), heap_alloc_old _ _ hsw1]; exact hs1
  clear c0 c1 c2 c3 c4 c5 c6 c7 c8 hsA hbA hb1
  go_upto_region 2 with fail
  generalize (w1.alloc (.cells zs.toArray 85)).setCells w1.heap.size 0 cs = W at *
  have hbl := hbx.lt
  clear hnew hone hs1 hnb hzl hbw1 hst hzb hcl
  obtain ⟨c0, c1, c2, c3, c4, c5, c6, c7, c8⟩ := sh_cells hsW
  have hst := storeCells_run W.heap.size il (W.alloc (.cells iz.toArray 94)) (by rw [hil]; exact there_new W iz 94 1666 hzil) hio
  have hin0 := hi0 W
  have hbU : Below w.heap.size w ((W.alloc (.cells iz.toArray 94)).setCells W.heap.size 0 il) := below_setCells (hbW.alloc hbW.size _) hbW.size _ _
  have hsU : ((W.alloc (.cells iz.toArray 94)).setCells W.heap.size 0 il).heap[w.heap.size]? = some (shB a c K M O S z i q) := by
    rw [heap_setCells_far _ _ _ _ _ (by omega), heap_alloc_old _ _ (by omega)]; exact hsW
  have hbxU : BoxOff ((W.alloc (.cells iz.toArray 94)).setCells W.heap.size 0 il) w1.heap.size 0 83 85 (fun _ => undef) K (K + M) z (ofs K M O S) kn0 := hbx.block (by rw [heap_setCells_far _ _ _ _ _ (by omega), heap_alloc_old _ _ (by omega)])
  have hWs := hbW.size
  go_upto_region 5 with fail
  generalize (W.alloc (.cells iz.toArray 94)).setCells W.heap.size 0 il = U at *
  clear c0 c1 c2 c3 c4 c5 c6 c7 c8 hst hsW hbx hbu hil hio hi0 hzil hzi hbW
  have hbbl := boxL_length K (K + M) z (ofs K M O S) kn0
  have hbrg := fun (W' : World) (h : BoxOff W' w1.heap.size 0 83 85 (fun _ => undef) K (K + M) z (ofs K M O S) kn0) => boxL_range h
  have hgrow := fun (W' : World) (m : Nat) (h : InbAt W' W.heap.size 94 c K M O S z m (fun _ => kn0)) => h.grow rfl
  have hbon : ∀ v ∈ boxL K (K + M) z (ofs K M O S) kn0, v.oneCell' = true := fun v hv => by
    obtain ⟨j, _, rfl⟩ := List.mem_map.1 hv
    exact boxCell_one _ _ _ _ _ _
  generalize boxL K (K + M) z (ofs K M O S) kn0 = bb at *
  have hii : (Tryz.prog.info? 85).map (·.size) = some bb.length := by rw [hbbl]; exact Tryz.sizeBox
  go_wp2_with fail
  go_loopw [8] (fun mv wr => ∃ m : Nat, m ≤ c ∧ mv = .int .i64 (m : Int) ∧ InbAt wr W.heap.size 94 c K M O S z m (fun _ => kn0) ∧ wr.heap[w.heap.size]? = some (shB a c K M O S z i q) ∧ BoxOff wr w1.heap.size 0 83 85 (fun _ => undef) K (K + M) z (ofs K M O S) kn0 ∧ Below w.heap.size w wr) (fun mv _ => c - (intOf mv).toNat)
  case atStart => exact ⟨0, Nat.zero_le _, rfl, hin0, hsU, hbxU, hbU⟩
  case round =>
    clear hin0 hsU hbxU hbU
    obtain ⟨m, hm, rfl, hinr, hsr, hbxr, hbr⟩ := hrel
    obtain ⟨d0, _⟩ := hinr.head
    by_cases hlt : m < c
    · have i1 : (m : Int) < (c : Int) := by omega
      have i2 : (0 : Int) ≤ (m : Int) := by omega
      have i3 : (m : Int) < 20 := by omega
      have hrg := hbrg wr hbxr
      have hst := storeCells_at W.heap.size (6 + m * 83) bb wr (by rw [hbbl]; exact hinr.there _ _ (by omega)) hbon
      have hin2 := hgrow wr m hinr
      have hs2 : (wr.setCells W.heap.size (6 + m * 83) bb).heap[w.heap.size]? = some (shB a c K M O S z i q) := by rw [heap_setCells_far _ _ _ _ _ (by omega)]; exact hsr
      have hbx2 : BoxOff (wr.setCells W.heap.size (6 + m * 83) bb) w1.heap.size 0 83 85 (fun _ => undef) K (K + M) z (ofs K M O S) kn0 := hbxr.block (by rw [heap_setCells_far _ _ _ _ _ (by omega)])
      have hb2 : Below w.heap.size w (wr.setCells W.heap.size (6 + m * 83) bb) := below_setCells hbr hWs _ _
      clear hinr hsr hbxr hbr hbrg hgrow
      go_wp2_with (refine wpList_load_mid rfl 85 (.tmp 5) rfl w1.heap.size 0 rfl bb _ hrg Tryz.underlying85 rfl hii ?_)
      go_roundw
      case rel => exact ⟨m + 1, by omega, by go_num, hin2, hs2, hbx2, hb2⟩
      case measure => simp [intOf]; omega
    · have hmc : m = c := by omega
      have i1 : ¬ (m : Int) < (c : Int) := by omega
      rw [hmc] at hinr
      obtain ⟨c0, c1, c2, c3, c4, c5, c6, c7, c8⟩ := sh_cells hsr
      clear hmc hlt hbrg hgrow hbxr
      go_wp2_with fail
      refine (hnext _ W.heap.size hinr).mono ?_
      rintro e w2 ⟨rfl, hin2, hcg2⟩
      have hb2 : Below w.heap.size w w2 := below_chg hbr hcg2 (fun k hk => by omega)
      have hp2 := hin.on (Nat.le_refl _) hb2
      clear c0 c1 c2 c3 c4 c5 c6 c7 c8 hnext hinr hsr hbr hcg2 d0
      rcases hee with rfl | rfl
      · have hrg := inbL_range hin2
        have hst := storeCells_at p 0 (inbL c K M O S z c k2) w2 (by rw [inbL_length]; exact hp2.there 0 1666 (by omega)) (inbL_one _ _ _ _ _ _ _ _)
        have hfin := inb_stored hp2 c K M O S z c k2
        have hcf := chg_setCells (Chg.of_below hb2 (fun k => k = p)) (b := p) rfl 0 (inbL c K M O S z c k2)
        have hbl := inbL_length c K M O S z c k2
        generalize inbL c K M O S z c k2 = ff at *
        have hi2 : (Tryz.prog.info? 94).map (·.size) = some ff.length := by rw [hbl]; exact Tryz.sizeInb
        have HF := hide (And.intro hfin hcf)
        clear hfin hcf hin2 hp2 hb2 hin
        go_wp2_with (refine wpList_load_mid rfl 94 (.tmp 7) rfl W.heap.size 0 rfl ff _ hrg Tryz.underlying94 rfl hi2 ?_)
        go_ret
        first | exact ⟨rfl, fun _ => HF.out.1, fun h => absurd rfl h, HF.out.2⟩ | exact ⟨rfl, HF.out.1, HF.out.2⟩
      · have hcf := Chg.of_below hb2 (fun k => k = p)
        go_wp2_with fail
        go_ret
        first | exact ⟨rfl, fun h => absurd h (by decide), fun _ => hb2, hcf⟩ | exact ⟨rfl, hb2, hcf⟩

end Go.Proofs.YtnjaofkieajnlaaGreat

/- The document's own inbox: how it lies in memory; Lacks. -/
namespace Go.Proofs.YtnjaofkieajnlaaGreat
open Go.RowKit

/-- Where a part's catcher lies. -/
structure PD where
  r : Nat
  b : Nat
  av : Value
  pv : Value

def PD.no : PD := ⟨0, 0, .slice none 0 0, .slice none 0 0⟩

def PD.fp (d : PD) (c : CS) (k : Nat) : Prop := fpD d.r d.b d.av d.pv c k

/-- An inbox's block. -/
abbrev inbB (s : IS) (hv : Value) : Obj := .cells #[.int .i64 (s.K : Int), .int .i64 (s.M : Int), .int .i64 (s.O : Int), .int .i64 (s.S : Int), .int .i64 (s.z : Int), hv] 55 (0, 0)

theorem inb_cells {w : World} {x : Nat} {s : IS} {hv : Value} (h : w.heap[x]? = some (inbB s hv)) : w.cell? ⟨x, 0, none⟩ = some (.int .i64 (s.K : Int)) ∧ w.cell? ⟨x, 1, none⟩ = some (.int .i64 (s.M : Int)) ∧ w.cell? ⟨x, 2, none⟩ = some (.int .i64 (s.O : Int)) ∧ w.cell? ⟨x, 3, none⟩ = some (.int .i64 (s.S : Int)) ∧ w.cell? ⟨x, 4, none⟩ = some (.int .i64 (s.z : Int)) ∧ w.cell? ⟨x, 5, none⟩ = some hv := by
  refine ⟨?_, ?_, ?_, ?_, ?_, ?_⟩ <;> rw [cell_of_row _ _ _ _ _ _ h] <;> rfl

def ptrsV (l : List PD) : List Value := l.map (fun d => .pointer (some ⟨d.r, 0, none⟩))

/-- Catchers of parts, in a list. -/
structure PartsAt (w : World) (hv : Value) (l : List PD) (cs : List CS) : Prop where
  len : l.length = cs.length
  own : w.ownsRow 0 44 1 hv l.length (ptrsV l)
  each : ∀ i, i < l.length → DocCat w (l.getD i PD.no).r (l.getD i PD.no).b (l.getD i PD.no).av (l.getD i PD.no).pv (cs.getD i CS.zero)
  apart : ∀ i j, i < l.length → j < l.length → i ≠ j → ∀ k, (l.getD i PD.no).fp (cs.getD i CS.zero) k → ¬ (l.getD j PD.no).fp (cs.getD j CS.zero) k

def fpP (hv : Value) (l : List PD) (cs : List CS) (k : Nat) : Prop := hv.ownBlock = some k ∨ ∃ i, i < l.length ∧ (l.getD i PD.no).fp (cs.getD i CS.zero) k

namespace PartsAt
variable {w w' : World} {hv : Value} {l : List PD} {cs : List CS}

theorem lt (h : PartsAt w hv l cs) {k : Nat} (hk : fpP hv l cs k) : k < w.heap.size := by
  rcases hk with hk | ⟨i, hi, hk⟩
  · exact (h.own.lt k hk).2
  · exact (h.each i hi).lt hk

theorem blocks (h : PartsAt w hv l cs) (hb : ∀ k, fpP hv l cs k → w'.heap[k]? = w.heap[k]?) : PartsAt w' hv l cs :=
  ⟨h.len, owns_of_block h.own (fun k hk => hb k (Or.inl hk)), fun i hi => (h.each i hi).blocks (fun k hk => hb k (Or.inr ⟨i, hi, hk⟩)), h.apart⟩

theorem on (h : PartsAt w hv l cs) (hb : Below w.heap.size w w') : PartsAt w' hv l cs := h.blocks (fun k hk => hb.block k (h.lt hk))

/-- No part has the list's block. -/
theorem list (h : PartsAt w hv l cs) {k : Nat} (hk : hv.ownBlock = some k) {i : Nat} (hi : i < l.length) : ¬ (l.getD i PD.no).fp (cs.getD i CS.zero) k := fun hf => by
  obtain ⟨c, t, hc, ht⟩ := (h.each i hi).types hf
  obtain ⟨cur, hcur⟩ := owns_block h.own hk
  rw [hcur] at hc
  simp at hc
  obtain ⟨_, rfl⟩ := hc
  rcases ht with ht | ht | ht | ht <;> exact absurd ht (by decide)

/-- A catcher's pointer in the list. -/
theorem cell (h : PartsAt w hv l cs) {i : Nat} (hi : i < l.length) : ∃ g cap, hv = .slice (some ⟨g, 0, none⟩) l.length cap ∧ g < w.heap.size ∧ w.cell? ⟨g, i, none⟩ = some (.pointer (some ⟨(l.getD i PD.no).r, 0, none⟩)) := by
  obtain ⟨g, cap, rfl, _, hgl⟩ := h.own.form (by omega)
  have := h.own.cells (g := g) rfl i (.pointer (some ⟨(l.getD i PD.no).r, 0, none⟩)) (by
    unfold ptrsV
    rw [List.getElem?_map, List.getElem?_eq_getElem hi, List.getD_eq_getElem?_getD, List.getElem?_eq_getElem hi]; rfl)
  rw [Addr.add_mid, Nat.zero_add] at this
  exact ⟨g, cap, rfl, hgl, this⟩

end PartsAt

/-- The document's inbox. -/
structure DocInbox (w : World) (x : Nat) (hv : Value) (l : List PD) (s : IS) : Prop where
  box : w.heap[x]? = some (inbB s hv)
  parts : PartsAt w hv l s.parts
  nil : s.parts = [] → hv = .slice none 0 0

def fpI (x : Nat) (hv : Value) (l : List PD) (s : IS) (k : Nat) : Prop := k = x ∨ fpP hv l s.parts k

namespace DocInbox
variable {w w' : World} {x : Nat} {hv : Value} {l : List PD} {s : IS}

theorem xlt (h : DocInbox w x hv l s) : x < w.heap.size := (Array.getElem?_eq_some_iff.1 h.box).1

theorem lt (h : DocInbox w x hv l s) {k : Nat} (hk : fpI x hv l s k) : k < w.heap.size := by
  rcases hk with rfl | hk
  · exact h.xlt
  · exact h.parts.lt hk

theorem blocks (h : DocInbox w x hv l s) (hb : ∀ k, fpI x hv l s k → w'.heap[k]? = w.heap[k]?) : DocInbox w' x hv l s :=
  ⟨by rw [hb x (Or.inl rfl)]; exact h.box, h.parts.blocks (fun k hk => hb k (Or.inr hk)), h.nil⟩

theorem on (h : DocInbox w x hv l s) (hb : Below w.heap.size w w') : DocInbox w' x hv l s := h.blocks (fun k hk => hb.block k (h.lt hk))

/-- No part has the inbox's block. -/
theorem parted (h : DocInbox w x hv l s) : ¬ fpP hv l s.parts x := fun hf => by
  rcases hf with hf | ⟨i, hi, hf⟩
  · exact owns_other h.parts.own h.box (by decide) hf
  · obtain ⟨c, t, hc, ht⟩ := (h.parts.each i hi).types hf
    rw [h.box] at hc
    simp at hc
    obtain ⟨_, rfl⟩ := hc
    rcases ht with ht | ht | ht | ht <;> exact absurd ht (by decide)

theorem shape (h : DocInbox w x hv l s) : ∃ ao cap, hv = .slice ao l.length cap := by
  rcases h.parts.own.2 with ⟨h1, h2⟩ | ⟨g, cap, cur, h1, _⟩
  · exact ⟨none, 0, by rw [h1, h2]⟩
  · exact ⟨_, cap, h1⟩

end DocInbox

theorem lackTo_le {s : IS} (h : ISok s) (i : Nat) (hi : i ≤ s.parts.length) (hne : s.parts ≠ []) : lackTo s i ≤ i * 20 := by
  induction i with
  | zero => exact Nat.zero_le _
  | succ i ih =>
    have h1 := ih (by omega)
    have hK := (h.spec hne).hK
    have h2 : lackC s.K (s.parts.getD i CS.zero) ≤ 20 := by
      unfold lackC
      split
      · rename_i hk
        have := ((h.part (i := i) (by omega)).2 hk).1
        have := openK_le (s.parts.getD i CS.zero).kn (s.parts.getD i CS.zero).K
        omega
      · omega
    show lackTo s i + lackC s.K (s.parts.getD i CS.zero) ≤ _
    omega

set_option maxRecDepth 100000 in
set_option maxHeartbeats 8000000 in
theorem rlacks_any (x : Nat) (hv : Value) (l : List PD) (s : IS) (w : World) (hd : DocInbox w x hv l s) (hs : ISok s) :
    Calls Tryz.prog 41 #[.pointer (some ⟨x, 0, none⟩)] w fun e w' => e = .returned (.int .i64 (lackE s)) ∧ Below w.heap.size w w' := by
  obtain ⟨ao, cap, hvs⟩ := hd.shape
  have hlen := hd.parts.len
  have hl20 := hs.len
  obtain ⟨c0, _, _, _, _, c5⟩ := inb_cells hd.box
  have hxl := hd.xlt
  by_cases h0 : s.parts = []
  · have hl0 : l.length = 0 := by rw [hlen, h0]; rfl
    have he : lackE s = -1 := by unfold lackE; rw [if_pos h0]
    rw [he]
    rw [hl0] at hvs
    subst hvs
    clear hd hs he h0 hlen hl20 hl0
    go_enter Tryz.func41, Tryz.ntmps41
    go_wp2_with fail
    go_loop [11] (fun iv => iv = .int .i64 0) (fun _ => 0)
    case atStart => rfl
    case round =>
      subst hrel
      go_wp2_with fail
      go_ret
      exact ⟨rfl, Below.refl _ _⟩
  · have he : lackE s = (lackTo s l.length : Int) := by unfold lackE; rw [if_neg h0, hlen]
    have hsp := hs.spec h0
    have hK := hsp.hK
    have hM := hsp.hM
    have hbd := fun i hi => lackTo_le hs i hi h0
    have hln0 : ((l.length : Int) == 0) = false := beq_eq_false_iff_ne.2 (fun e => h0 (List.eq_nil_of_length_eq_zero (by omega)))
    rw [he]
    subst hvs
    have HD := hide hd
    have HS := hide hs
    clear he h0 hd hs
    go_enter Tryz.func41, Tryz.ntmps41
    go_wp2_with fail
    go_loopw [3, 11] (fun nv iv wr => ∃ i : Nat, i ≤ l.length ∧ iv = .int .i64 (i : Int) ∧ nv = .int .i64 (lackTo s i : Int) ∧ Below w.heap.size w wr) (fun _ iv _ => l.length - (intOf iv).toNat)
    case atStart => exact ⟨0, Nat.zero_le _, rfl, rfl, Below.refl _ _⟩
    case round =>
      clear c0 c5
      obtain ⟨i, hi, rfl, rfl, hbr⟩ := hrel
      have hdr := HD.out.on hbr
      obtain ⟨c0, _, _, _, _, c5⟩ := inb_cells hdr.box
      have hb1 := hbd i (by omega)
      by_cases hlt : i < l.length
      · obtain ⟨g, cap', hve, hg, cp⟩ := hdr.parts.cell hlt
        have hdc := hdr.parts.each i hlt
        obtain ⟨hok, hpo⟩ := HS.out.part (i := i) (by omega)
        have hnx : lackTo s (i + 1) = lackTo s i + lackC s.K (s.parts.getD i CS.zero) := rfl
        simp only [Value.slice.injEq] at hve
        obtain ⟨rfl, _, rfl⟩ := hve
        generalize s.parts.getD i CS.zero = c at *
        generalize l.getD i PD.no = d at *
        have i1 : (0 : Int) ≤ (i : Int) := by omega
        have i2 : (i : Int) < (l.length : Int) := by omega
        cases hk : c.tk with
        | false =>
          have hlc : lackC s.K c = s.K := by unfold lackC; rw [hk]; rfl
          rw [hlc] at hnx
          have Hnx := hide hnx
          have cc := cat_cell (hdc.no hk)
          clear hlc hnx hdc hok hpo hk
          go_wp2_with fail
          go_roundw
          case rel => exact ⟨i + 1, by omega, by go_num, by rw [Hnx.out]; go_num, hbr⟩
          case measure => simp [intOf]; omega
        | true =>
          have hlc : lackC s.K c = openK c.kn c.K := by unfold lackC; rw [hk]; rfl
          have hsc := hok.spec hk
          have hrl := hok.rel hk
          have hcn := hok.cnt hk
          have hKc := hsc.hK
          have hMc := hsc.hM
          have hne := rneed_any d.b c.K c.M c.O c.S c.z d.av d.pv c.ps wr hsc.hK hsc.hM hsc.hO hsc.hS (by have := hsc.hz; omega) (hdc.box hk) (by omega) hrl.inn (hdc.nil hk)
          rw [hrl.need hsc.hK.2 (by omega)] at hne
          have hob := openK_le c.kn c.K
          rw [hlc] at hnx
          have Hnx := hide hnx
          have cc := cat_cell (hdc.cat hk)
          clear hlc hnx hdc hok hpo hk hcn hrl
          generalize openK c.kn c.K = nd at *
          go_wp2_with fail
          refine hne.mono ?_
          rintro e w1 ⟨rfl, hb2⟩
          have hbr2 := hbr.trans (hb2.mono hbr.size)
          clear hne hb2
          go_wp2_with fail
          go_roundw
          case rel => exact ⟨i + 1, by omega, by go_num, by rw [Hnx.out]; go_num, hbr2⟩
          case measure => simp [intOf]; omega
      · have hii : i = l.length := by omega
        have i5 : ¬ (i : Int) < (l.length : Int) := by omega
        have Hii := hide hii
        clear hii
        go_wp2_with fail
        go_ret
        exact ⟨by rw [← hlen, ← Hii.out]; rfl, hbr⟩

end Go.Proofs.YtnjaofkieajnlaaGreat

/- The document's own inbox: Take, of what is no sheet. -/
namespace Go.Proofs.YtnjaofkieajnlaaGreat
open Go.RowKit

set_option maxRecDepth 100000 in
set_option maxHeartbeats 8000000 in
theorem rtake_head (x : Value) (t : ByteArray) (w : World) (h : ¬ headOk t) :
    Calls Tryz.prog 39 #[x, .string t] w fun e w' => e = .returned (.int .i64 6) ∧ Below w.heap.size w w' := by
  have hbd : ∀ n, Below w.heap.size w (w.drewN n) := fun n => ⟨rfl, rfl, rfl, Nat.le_refl _, fun _ _ => rfl⟩
  by_cases h4 : t.size < 4
  · have l4 : (t.size : Int) < 4 := by omega
    clear h h4
    go_enter Tryz.func39, Tryz.ntmps39
    go_upto_region 1 with fail
    go_quiet (fail)
    go_wp2_with fail
    go_ret
    exact ⟨rfl, hbd _⟩
  · have g0 := byteAt_get t 0 (by omega)
    have g1 := byteAt_get t 1 (by omega)
    have g2 := byteAt_get t 2 (by omega)
    have b0 := (byteAt t 0).toNat_lt
    have b1 := (byteAt t 1).toNat_lt
    have b2 := (byteAt t 2).toNat_lt
    have i0 : (0 : Int) < (t.size : Int) := by omega
    have i1 : (1 : Int) < (t.size : Int) := by omega
    have i2 : (2 : Int) < (t.size : Int) := by omega
    have l4 : ¬ (t.size : Int) < 4 := by omega
    have hor : (((byteAt t 0).toNat : Int) != 83) = true ∨ ((((byteAt t 0).toNat : Int) != 83) = false ∧ ((byteAt t 2).toNat : Int) < 1) ∨ ((((byteAt t 0).toNat : Int) != 83) = false ∧ ¬ ((byteAt t 2).toNat : Int) < 1 ∧ (20 : Int) < ((byteAt t 2).toNat : Int)) ∨ ((((byteAt t 0).toNat : Int) != 83) = false ∧ ¬ ((byteAt t 2).toNat : Int) < 1 ∧ ¬ (20 : Int) < ((byteAt t 2).toNat : Int) ∧ ((byteAt t 2).toNat : Int) ≤ ((byteAt t 1).toNat : Int)) := by
      by_cases e0 : byteAt t 0 = 83
      · have e0b : (((byteAt t 0).toNat : Int) != 83) = false := by rw [e0]; rfl
        right
        rw [e0b]
        simp only [true_and]
        have hh : ¬ (1 ≤ (byteAt t 2).toNat ∧ (byteAt t 2).toNat ≤ 20 ∧ (byteAt t 1).toNat < (byteAt t 2).toNat) := fun ⟨a, b, c⟩ => h ⟨by omega, e0, a, b, c⟩
        omega
      · left
        simp only [bne_iff_ne, ne_eq]
        intro e
        exact e0 (UInt8.toNat_inj.1 (by show (byteAt t 0).toNat = 83; omega))
    clear h
    rcases hor with h1 | ⟨h1, h2⟩ | ⟨h1, h2, h3⟩ | ⟨h1, h2, h3, h4⟩
    all_goals
      go_enter Tryz.func39, Tryz.ntmps39
      go_upto_region 1 with fail
      go_quiet (fail)
      go_wp2_with fail
      go_ret
      exact ⟨rfl, hbd _⟩

set_option maxRecDepth 100000 in
set_option maxHeartbeats 8000000 in
theorem rtake_nopacket (x : Value) (t : ByteArray) (w : World) (h : headOk t) (hp : ¬ PacketOk (tQ t)) :
    Calls Tryz.prog 39 #[x, .string t] w fun e w' => e = .returned (.int .i64 6) ∧ Below w.heap.size w w' := by
  have hbd : ∀ n, Below w.heap.size w (w.drewN n) := fun n => ⟨rfl, rfl, rfl, Nat.le_refl _, fun _ _ => rfl⟩
  have hrd := fun W => rread_no (tQ t) hp W
  obtain ⟨h4, e0, n1, n2, n3⟩ := h
  unfold tQ at hrd
  have g0 := byteAt_get t 0 (by omega)
  have g1 := byteAt_get t 1 (by omega)
  have g2 := byteAt_get t 2 (by omega)
  have b1 := (byteAt t 1).toNat_lt
  have b2 := (byteAt t 2).toNat_lt
  have i0 : (0 : Int) < (t.size : Int) := by omega
  have i1 : (1 : Int) < (t.size : Int) := by omega
  have i2 : (2 : Int) < (t.size : Int) := by omega
  have i3 : (3 : Int) ≤ (t.size : Int) := by omega
  have l4 : ¬ (t.size : Int) < 4 := by omega
  have h1 : (((byteAt t 0).toNat : Int) != 83) = false := by rw [e0]; rfl
  unfold tN at n1 n2 n3
  unfold tP at n3
  have h2 : ¬ ((byteAt t 2).toNat : Int) < 1 := by omega
  have h3 : ¬ (20 : Int) < ((byteAt t 2).toNat : Int) := by omega
  have h5 : ¬ ((byteAt t 2).toNat : Int) ≤ ((byteAt t 1).toNat : Int) := by omega
  clear hp e0 n1 n2 n3
  go_enter Tryz.func39, Tryz.ntmps39
  go_upto_region 1 with fail
  go_cut [37] (fun s37 wc => s37 = .bool false ∧ ∃ n, wc = w.drewN n)
  case first =>
    go_quiet (fail)
    go_wp2_with fail
    go_meet
    case rel => exact ⟨rfl, _, rfl⟩
  case rest =>
  obtain ⟨rfl, nq, rfl⟩ := hcut
  have hbq := hbd nq
  generalize w.drewN nq = V at *
  clear hbd g0 g1 g2 h1 h2 h3 h5
  go_wp2_with fail
  refine (hrd _).mono ?_
  rintro e w1 ⟨⟨a1, a2, a3, a4, b, c', d, rfl⟩, hb1⟩
  have hbw1 := hbq.trans (hb1.mono hbq.size)
  have hbf := hbw1.alloc hbw1.size (.cells #[.int .i64 a1, .int .i64 a2, .int .i64 a3, .int .i64 a4] 25)
  clear hrd hb1
  go_wp2_with fail
  go_ret
  exact ⟨rfl, hbf⟩

set_option maxRecDepth 100000 in
set_option maxHeartbeats 8000000 in
theorem rtake_other (x : Nat) (hv : Value) (l : List PD) (s : IS) (t : ByteArray) (w : World) (hd : DocInbox w x hv l s) (h : headOk t) (hp : PacketOk (tQ t)) (hne : s.parts ≠ []) (hno : ¬ (rK (tQ t) = s.K ∧ rM (tQ t) = s.M ∧ rO (tQ t) = s.O ∧ rS (tQ t) = s.S ∧ rZ (tQ t) = s.z ∧ tN t = s.parts.length)) :
    Calls Tryz.prog 39 #[.pointer (some ⟨x, 0, none⟩), .string t] w fun e w' => e = .returned (.int .i64 7) ∧ Below w.heap.size w w' := by
  have hbd : ∀ n, Below w.heap.size w (w.drewN n) := fun n => ⟨rfl, rfl, rfl, Nat.le_refl _, fun _ _ => rfl⟩
  have hrd := rread_ok (tQ t) hp
  obtain ⟨ao, cap, hvs⟩ := hd.shape
  have hlen := hd.parts.len
  have hl0 : (0 : Int) < (l.length : Int) := by
    have : s.parts.length ≠ 0 := fun e => hne (List.eq_nil_of_length_eq_zero e)
    omega
  rw [← hlen] at hno
  have hbox := hd.box
  subst hvs
  clear hlen hd
  generalize l.length = ln at *
  have hd0 : decide (0 < ln) = true := decide_eq_true (by omega)
  obtain ⟨h4, e0, n1, n2, n3⟩ := h
  unfold ReadSays at hrd
  have htq : tQ t = t.extract 3 t.size := rfl
  rw [htq] at hrd hno
  generalize rK (t.extract 3 t.size) = K at *
  generalize rM (t.extract 3 t.size) = M at *
  generalize rO (t.extract 3 t.size) = O at *
  generalize rS (t.extract 3 t.size) = S at *
  generalize rZ (t.extract 3 t.size) = z at *
  generalize rI (t.extract 3 t.size) = i at *
  generalize rQ (t.extract 3 t.size) = q at *
  have g0 := byteAt_get t 0 (by omega)
  have g1 := byteAt_get t 1 (by omega)
  have g2 := byteAt_get t 2 (by omega)
  have b1 := (byteAt t 1).toNat_lt
  have b2 := (byteAt t 2).toNat_lt
  have i0 : (0 : Int) < (t.size : Int) := by omega
  have i1 : (1 : Int) < (t.size : Int) := by omega
  have i2 : (2 : Int) < (t.size : Int) := by omega
  have i3 : (3 : Int) ≤ (t.size : Int) := by omega
  have l4 : ¬ (t.size : Int) < 4 := by omega
  have h1 : (((byteAt t 0).toNat : Int) != 83) = false := by rw [e0]; rfl
  unfold tN at n1 n2 n3 hno
  unfold tP at n3
  have h2 : ¬ ((byteAt t 2).toNat : Int) < 1 := by omega
  have h3 : ¬ (20 : Int) < ((byteAt t 2).toNat : Int) := by omega
  have h5 : ¬ ((byteAt t 2).toNat : Int) ≤ ((byteAt t 1).toNat : Int) := by omega
  clear hp e0 n1 n2 n3 htq
  go_enter Tryz.func39, Tryz.ntmps39
  go_upto_region 1 with fail
  go_cut [37] (fun s37 wc => s37 = .bool false ∧ ∃ n, wc = w.drewN n)
  case first =>
    go_quiet (fail)
    go_wp2_with fail
    go_meet
    case rel => exact ⟨rfl, _, rfl⟩
  case rest =>
  obtain ⟨rfl, nq, rfl⟩ := hcut
  have hbq := hbd nq
  have hboxq : (w.drewN nq).heap[x]? = some (inbB s (.slice ao ln cap)) := hbox
  generalize w.drewN nq = V at *
  clear hbd g0 g1 h1 h2 h3 h5 hbox
  go_wp2_with fail
  refine (hrd _).mono ?_
  rintro e w1 ⟨rfl, hb1⟩
  have hbw1 := hbq.trans (hb1.mono hbq.size)
  have hbx1 := block_on hboxq hb1
  clear hrd hb1 hbq hboxq
  have hxl : x < w1.heap.size := (Array.getElem?_eq_some_iff.1 hbx1).1
  have hbA : Below w.heap.size w (w1.alloc (specB K M O S)) := hbw1.alloc hbw1.size _
  have hsA : (w1.alloc (specB K M O S)).heap[w1.heap.size]? = some (specB K M O S) := heap_alloc_new w1 _
  have hxA := block_on hbx1 ((Below.refl w1.heap.size w1).alloc (Nat.le_refl _) (specB K M O S))
  obtain ⟨d0, d1, d2, d3, d4, d5⟩ := inb_cells hxA
  go_upto_region 8 with fail
  generalize w1.alloc (specB K M O S) = W at *
  obtain ⟨s0, s1, s2, s3⟩ := spec_cells hsA
  have hbf : ∀ n, Below w.heap.size w (W.drewN n) := fun n => hbA.trans ⟨rfl, rfl, rfl, Nat.le_refl _, fun _ _ => rfl⟩
  generalize (byteAt t 2).toNat = tn at *
  by_cases e1 : K = s.K ∧ M = s.M ∧ O = s.O ∧ S = s.S
  · obtain ⟨e1, e2, e3, e4⟩ := e1
    by_cases ez : z = s.z
    · have hnn : ((tn : Int) != (ln : Int)) = true := by simp; intro e; exact hno ⟨e1, e2, e3, e4, ez, by omega⟩
      subst e1 e2 e3 e4 ez
      clear hno
      go_quiet (fail)
      go_wp2_with fail
      go_ret
      exact ⟨rfl, hbf _⟩
    · have hzz : ((z : Int) != (s.z : Int)) = true := by simp; omega
      subst e1 e2 e3 e4
      clear hno ez
      go_quiet (fail)
      go_wp2_with fail
      go_ret
      exact ⟨rfl, hbf _⟩
  · have hor : ((K : Int) == (s.K : Int)) = false ∨ (K = s.K ∧ ((M : Int) == (s.M : Int)) = false) ∨ (K = s.K ∧ M = s.M ∧ ((O : Int) == (s.O : Int)) = false) ∨ (K = s.K ∧ M = s.M ∧ O = s.O ∧ ((S : Int) == (s.S : Int)) = false) := by
      simp only [beq_eq_false_iff_ne, ne_eq, Int.natCast_inj]
      omega
    clear hno e1
    rcases hor with h | ⟨rfl, h⟩ | ⟨rfl, rfl, h⟩ | ⟨rfl, rfl, rfl, h⟩
    all_goals
      go_quiet (fail)
      go_wp2_with fail
      go_ret
      exact ⟨rfl, hbf _⟩

end Go.Proofs.YtnjaofkieajnlaaGreat

/- The document's own inbox: Take, of a further sheet. -/
namespace Go.Proofs.YtnjaofkieajnlaaGreat
open Go.RowKit

theorem ptrsV_set (l : List PD) (i : Nat) (d : PD) (h : d.r = (l.getD i PD.no).r) : ptrsV (l.set i d) = ptrsV l := by
  unfold ptrsV
  rw [List.map_set]
  apply List.ext_getElem?
  intro j
  by_cases e : i = j
  · subst e
    by_cases hi : i < l.length
    · rw [List.getElem?_set_self (by simpa using hi), List.getElem?_map, List.getElem?_eq_getElem hi, h, List.getD_eq_getElem?_getD, List.getElem?_eq_getElem hi]; rfl
    · rw [List.getElem?_eq_none (by simp; omega), List.getElem?_eq_none (by simp; omega)]
  · rw [List.getElem?_set_ne e]

/-- One part has turned. -/
theorem PartsAt.update {w w' : World} {hv : Value} {l : List PD} {cs : List CS} (h : PartsAt w hv l cs) {i : Nat} (hi : i < l.length) {d : PD} {c : CS} (hc : Chg ((l.getD i PD.no).fp (cs.getD i CS.zero)) w w') (hd : DocCat w' d.r d.b d.av d.pv c) (hr : d.r = (l.getD i PD.no).r) (hn : ∀ k, d.fp c k → (l.getD i PD.no).fp (cs.getD i CS.zero) k ∨ w.heap.size ≤ k) :
    PartsAt w' hv (l.set i d) (cs.set i c) ∧ Chg (fpP hv l cs) w w' ∧ (∀ k, fpP hv (l.set i d) (cs.set i c) k → fpP hv l cs k ∨ w.heap.size ≤ k) := by
  have hci : i < cs.length := by rw [← h.len]; exact hi
  refine ⟨⟨by rw [List.length_set, List.length_set]; exact h.len, ?_, ?_, ?_⟩, hc.mono (fun k _ hk => Or.inr ⟨i, hi, hk⟩), ?_⟩
  · rw [List.length_set, ptrsV_set l i d hr]
    exact owns_of_block h.own (fun k hk => hc.block k (h.own.lt k hk).2 (h.list hk hi))
  · intro j hj
    rw [List.length_set] at hj
    rw [getD_setA l PD.no i j d hi, getD_setA cs CS.zero i j c hci]
    by_cases e : j = i
    · rw [if_pos e, if_pos e]; exact hd
    · rw [if_neg e, if_neg e]
      exact (h.each j hj).blocks (fun k hk => hc.block k ((h.each j hj).lt hk) (fun x => h.apart i j hi hj (fun q => e q.symm) k x hk))
  · intro a b ha hb hne k hk
    rw [List.length_set] at ha hb
    rw [getD_setA l PD.no i a d hi, getD_setA cs CS.zero i a c hci] at hk
    rw [getD_setA l PD.no i b d hi, getD_setA cs CS.zero i b c hci]
    by_cases ea : a = i
    · rw [if_pos ea, if_pos ea] at hk
      have eb : b ≠ i := fun e => hne (ea.trans e.symm)
      rw [if_neg eb, if_neg eb]
      rcases hn k hk with h1 | h1
      · exact h.apart i b hi hb (fun e => eb e.symm) k h1
      · intro h2
        have := (h.each b hb).lt h2
        omega
    · rw [if_neg ea, if_neg ea] at hk
      by_cases eb : b = i
      · rw [if_pos eb, if_pos eb]
        intro h2
        rcases hn k h2 with h1 | h1
        · exact h.apart a i ha hi ea k hk h1
        · have := (h.each a ha).lt hk
          omega
      · rw [if_neg eb, if_neg eb]; exact h.apart a b ha hb hne k hk
  · rintro k (hk | ⟨j, hj, hf⟩)
    · exact Or.inl (Or.inl hk)
    · rw [List.length_set] at hj
      rw [getD_setA l PD.no i j d hi, getD_setA cs CS.zero i j c hci] at hf
      by_cases e : j = i
      · rw [if_pos e, if_pos e] at hf
        rcases hn k hf with h1 | h1
        · exact Or.inl (Or.inr ⟨i, hi, h1⟩)
        · exact Or.inr h1
      · rw [if_neg e, if_neg e] at hf; exact Or.inl (Or.inr ⟨j, hj, hf⟩)

theorem inb_store {w : World} {x : Nat} {s : IS} {hv : Value} (h : w.heap[x]? = some (inbB s hv)) (a0 a1 a2 a3 a4 a5 : Value) :
    ((((((w.setCell ⟨x, 0, none⟩ a0).setCell ⟨x, 1, none⟩ a1).setCell ⟨x, 2, none⟩ a2).setCell ⟨x, 3, none⟩ a3).setCell ⟨x, 4, none⟩ a4).setCell ⟨x, 5, none⟩ a5).heap[x]? = some (.cells #[a0, a1, a2, a3, a4, a5] 55 (0, 0)) := by
  have h0 := heap_setCell_same _ _ 0 _ _ a0 h
  have h1 := heap_setCell_same _ _ 1 _ _ a1 h0
  have h2 := heap_setCell_same _ _ 2 _ _ a2 h1
  have h3 := heap_setCell_same _ _ 3 _ _ a3 h2
  have h4 := heap_setCell_same _ _ 4 _ _ a4 h3
  have h5 := heap_setCell_same _ _ 5 _ _ a5 h4
  rw [h5]; rfl

theorem set6_far (w : World) (x : Nat) (a0 a1 a2 a3 a4 a5 : Value) (k : Nat) (hk : k ≠ x) : ((((((w.setCell ⟨x, 0, none⟩ a0).setCell ⟨x, 1, none⟩ a1).setCell ⟨x, 2, none⟩ a2).setCell ⟨x, 3, none⟩ a3).setCell ⟨x, 4, none⟩ a4).setCell ⟨x, 5, none⟩ a5).heap[k]? = w.heap[k]? := by
  rw [heap_setCell_other _ _ _ _ hk, heap_setCell_other _ _ _ _ hk, heap_setCell_other _ _ _ _ hk, heap_setCell_other _ _ _ _ hk, heap_setCell_other _ _ _ _ hk, heap_setCell_other _ _ _ _ hk]

theorem takeE_main {s : IS} {t : ByteArray} (h : headOk t) (hp : PacketOk (tQ t)) (hs : s.parts = [] ∨ (rK (tQ t) = s.K ∧ rM (tQ t) = s.M ∧ rO (tQ t) = s.O ∧ rS (tQ t) = s.S ∧ rZ (tQ t) = s.z ∧ tN t = s.parts.length)) : takeE s t = hearE ((partsOf s t).getD (tP t) CS.zero) (tQ t) := by
  unfold takeE
  rw [if_neg (fun x => by
    rcases x with x | x
    · rw [(headSb_iff t).2 h] at x; cases x
    · rw [(packetB_iff _).2 hp] at x; cases x), if_neg (fun ⟨a, b⟩ => by
    rcases hs with hs | hs
    · exact a hs
    · rw [(sameI_iff s t).2 hs] at b; cases b)]

end Go.Proofs.YtnjaofkieajnlaaGreat
