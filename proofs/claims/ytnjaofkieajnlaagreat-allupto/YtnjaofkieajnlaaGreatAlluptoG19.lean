/- Texts of the proof, part 20. -/
import Derived.Test.YtnjaofkieajnlaaGreatAlluptoG18

/- The program's catcher: Hear of the first packet. -/
namespace Go.Proofs.YtnjaofkieajnlaaGreat
open Go.RowKit

/-- A row behind many stores. -/
theorem row_setCells {b : Nat} {t : TypeId} {n : Nat} : ∀ (vs : List Value) (o : Nat) (w : World) (f : Nat → Value), w.rowIs b t n f → (w.setCells b o vs).rowIs b t n (fun j => if o ≤ j ∧ j < o + vs.length then vs.getD (j - o) undef else f j)
  | [], o, w, f, h => h.congr (fun j _ => by rw [if_neg (by simp)])
  | v :: r, o, w, f, h => by
    refine (row_setCells r (o + 1) _ _ (h.set o v)).congr (fun j _ => ?_)
    by_cases h1 : j = o
    · subst h1
      rw [if_neg (by omega), if_pos rfl, if_pos (by simp), Nat.sub_self]
      rfl
    · by_cases h2 : o + 1 ≤ j ∧ j < o + 1 + r.length
      · rw [if_pos h2, if_pos (by simp; omega), show j - o = (j - (o + 1)) + 1 by omega]; rfl
      · rw [if_neg h2, if_neg h1, if_neg (by simp; omega)]

/-- The cells of a box, and of a catcher that has heard, as lists. -/
def boxL (K n z : Nat) (T : Nat → Nat) (kn : Kn) : List Value := (List.range 83).map (boxCell K n z T kn)

def catL (K M O S z n : Nat) (T : Nat → Nat) (kn : Kn) : List Value := (List.range 89).map (catCell true K M O S z n T kn)

theorem boxL_length (K n z : Nat) (T : Nat → Nat) (kn : Kn) : (boxL K n z T kn).length = 83 := by simp [boxL]

theorem catL_length (K M O S z n : Nat) (T : Nat → Nat) (kn : Kn) : (catL K M O S z n T kn).length = 89 := by simp [catL]

theorem boxL_get (K n z : Nat) (T : Nat → Nat) (kn : Kn) (i : Nat) (hi : i < 83) : (boxL K n z T kn)[i]? = some (boxCell K n z T kn i) := by
  unfold boxL
  rw [List.getElem?_map, List.getElem?_range hi]; rfl

theorem catL_get (K M O S z n : Nat) (T : Nat → Nat) (kn : Kn) (i : Nat) (hi : i < 89) : (catL K M O S z n T kn)[i]? = some (catCell true K M O S z n T kn i) := by
  unfold catL
  rw [List.getElem?_map, List.getElem?_range hi]; rfl

theorem boxCell_one (K n z : Nat) (T : Nat → Nat) (kn : Kn) (i : Nat) : (boxCell K n z T kn i).oneCell' = true := by
  unfold boxCell
  repeat' split
  all_goals rfl

theorem catL_one (K M O S z n : Nat) (T : Nat → Nat) (kn : Kn) : ∀ v ∈ catL K M O S z n T kn, v.oneCell' = true := by
  intro v hv
  obtain ⟨i, _, rfl⟩ := List.mem_map.1 hv
  unfold catCell
  repeat' split
  all_goals first | rfl | exact boxCell_one _ _ _ _ _ _

theorem boxL_range {w : World} {p o Ln : Nat} {tt : TypeId} {hh : Nat → Value} {K n z : Nat} {T : Nat → Nat} {kn : Kn} (h : BoxOff w p o Ln tt hh K n z T kn) : w.rangeAt p o (boxL K n z T kn) := fun j v hv => by
  have hj : j < 83 := by have := (List.getElem?_eq_some_iff.1 hv).1; rwa [boxL_length] at this
  rw [boxL_get _ _ _ _ _ _ hj] at hv
  rw [h.cell hj, hv]

/-- A new box, stored. -/
theorem newBox_off (w : World) (zs : List Value) (hzl : zs.length = 83) (K n z : Nat) (T : Nat → Nat) : BoxOff ((w.alloc (.cells zs.toArray 85)).setCells w.heap.size 0 (newL K n z T)) w.heap.size 0 83 85 (fun _ => undef) K n z T kn0 := by
  refine ⟨Nat.le_refl _, ?_⟩
  have h0 : (w.alloc (.cells zs.toArray 85)).rowIs w.heap.size 85 83 (fun i => zs.getD i undef) := by
    have := World.rowIs_alloc w zs.toArray 85 (fun i => zs.getD i undef) (fun i hi => by
      rw [List.size_toArray] at hi
      rw [List.getElem?_toArray, List.getElem?_eq_getElem hi, List.getD_eq_getElem?_getD, List.getElem?_eq_getElem hi]; rfl)
    have e : zs.toArray.size = 83 := by simp [hzl]
    rwa [e] at this
  refine (row_setCells (newL K n z T) 0 _ _ h0).congr (fun i hi => ?_)
  rw [if_pos (by rw [newL_length]; omega), Nat.sub_zero]
  unfold inBox
  rw [if_neg (by omega), if_pos (by omega), Nat.sub_zero]
  unfold newL
  rw [List.getD_eq_getElem?_getD, List.getElem?_map, List.getElem?_range hi]; rfl

/-- A catcher, stored. -/
theorem cat_stored {w : World} {p o Ln : Nat} {tt : TypeId} {hh : Nat → Value} {tk : Bool} {K' M' O' S' z' n' : Nat} {of' : Nat → Nat} {kn' : Kn} (h : CatOff w p o Ln tt hh tk K' M' O' S' z' n' of' kn') (K M O S z n : Nat) (T : Nat → Nat) (kn : Kn) : CatOff (w.setCells p o (catL K M O S z n T kn)) p o Ln tt hh true K M O S z n T kn := by
  refine ⟨h.1, (row_setCells _ o _ _ h.2).congr (fun i hi => ?_)⟩
  rw [catL_length]
  unfold inCat
  by_cases h1 : i < o
  · rw [if_neg (by omega), if_pos h1, if_pos h1]
  · by_cases h2 : i < o + 89
    · rw [if_pos (by omega), if_neg h1, if_pos h2, List.getD_eq_getElem?_getD, catL_get _ _ _ _ _ _ _ _ _ (by omega)]; rfl
    · rw [if_neg (by omega), if_neg h1, if_neg h2, if_neg h1, if_neg h2]

noncomputable def builtCat (parts : Array (Nat × Value)) : Sem Value := Instr.build 87 parts

theorem build_maskC (parts : Array (Nat × Value)) : Instr.build 87 parts = builtCat parts := rfl

theorem built_cat (K M O S z n : Nat) (T : Nat → Nat) (kn : Kn) : Tryz.prog.built 87 [(0, .bool true), (1, specV K M O S), (2, .int .i64 (z : Int)), (3, .agg (boxL K n z T kn).toArray)] = some (catL K M O S z n T kn).toArray := by kernel_rfl

theorem cat_build (K M O S z n : Nat) (T : Nat → Nat) (kn : Kn) (w : World) : (builtCat #[(0, .bool true), (1, specV K M O S), (2, .int .i64 (z : Int)), (3, .agg (boxL K n z T kn).toArray)]).run Tryz.prog w = .ok (.agg (catL K M O S z n T kn).toArray) w :=
  run_build (P := Tryz.prog) w 87 #[(0, .bool true), (1, specV K M O S), (2, .int .i64 (z : Int)), (3, .agg (boxL K n z T kn).toArray)] _ (built_cat K M O S z n T kn)

theorem storeCells_at (b o : Nat) (vs : List Value) (w : World) (ht : w.there b o vs.length) (h1 : ∀ v ∈ vs, v.oneCell' = true) : (storeCells ⟨b, o, none⟩ vs).run Tryz.prog w = .ok () (w.setCells b o vs) :=
  run_storeCells_cells (P := Tryz.prog) b o vs 0 w (fun j hj => by simpa using (ht j hj).1) (fun j hj => by simpa using (ht j hj).2) h1

theorem chg_setCells {S : Nat → Prop} {w w' : World} (h : Chg S w w') {b : Nat} (hb : S b) (o : Nat) (vs : List Value) : Chg S w (w'.setCells b o vs) := by
  induction vs generalizing o w' with
  | nil => exact h
  | cons v vs ih => exact ih (h.setCell (a := ⟨b, o, none⟩) (Or.inr hb) v) (o + 1)

attribute [local go_sem ↓] build_maskC

set_option maxRecDepth 100000 in
set_option maxHeartbeats 8000000 in
theorem pfirst_any (p o Ln : Nat) (tt : TypeId) (hh : Nat → Value) (K M O S z : Nat) (i : Nat) (q : ByteArray) (w : World) (hK : 1 ≤ K ∧ K ≤ 20) (hM : 1 ≤ M ∧ M ≤ 20) (hO : 1 ≤ O ∧ O ≤ M) (hS : S ≤ 65535) (hz : 1 ≤ z ∧ z ≤ 16) (hi : i < K + M) (hq : q.size = z) (hc : CatNone w p o Ln tt hh) :
    Calls Tryz.prog 93 #[.pointer (some ⟨p, o, none⟩), .agg (pkC K M O S z i q)] w fun e w' => e = .returned (.int .i64 (putE (left kn0 (ofs K M O S i) q) z)) ∧ (putE (left kn0 (ofs K M O S i) q) z = 0 → CatHas w' p o Ln tt hh K M O S z (putK kn0 (ofs K M O S i) q)) ∧ (putE (left kn0 (ofs K M O S i) q) z ≠ 0 → Below w.heap.size w w') ∧ Chg (fun k => k = p) w w' := by
  have hput := fun W r hW => qput_ok r 0 83 85 (fun _ => undef) K (K + M) z i q (ofs K M O S) kn0 W hK.2 (kn0_ok K z) (ofs_lt K M O S) (by omega) (by omega) hi hq hW
  have hnew := fun W => bnew_ok K M O S z W hK hM hO hS hz
  have hpl := hc.lt
  have hzb : ∀ w, (zeroValue 85).run Tryz.prog w = .ok (.agg zeroL.toArray) w := zero_box
  have hzl : zeroL.length = 83 := newL_length 0 0 0 (fun _ => 0)
  have hcl := newL_length K (K + M) z (ofs K M O S)
  have hone := newL_one K (K + M) z (ofs K M O S)
  have hnb := fun (W : World) (zs : List Value) (h : zs.length = 83) => newBox_off W zs h K (K + M) z (ofs K M O S)
  unfold newV at hnew
  generalize newL K (K + M) z (ofs K M O S) = cs at *
  generalize zeroL = zs at *
  obtain ⟨ee, he⟩ : ∃ ee, ee = putE (left kn0 (ofs K M O S i) q) z := ⟨_, rfl⟩
  have hee : ee = 0 ∨ ee = 4 := by rw [he]; unfold putE; split <;> simp
  obtain ⟨k2, hk2⟩ : ∃ k2, k2 = putK kn0 (ofs K M O S i) q := ⟨_, rfl⟩
  rw [← he, ← hk2] at hput ⊢
  clear he hk2
  go_enter Tryz.func93, Tryz.ntmps93
  go_wp2_with fail
  refine (hnew _).mono ?_
  rintro e w1 ⟨rfl, hb1⟩
  have hbw1 : Below w.heap.size w w1 := ((Below.refl w.heap.size w).alloc (Nat.le_refl _) _).trans (hb1.mono (by simp))
  have hpk1 : w1.heap[w.heap.size]? = some (.cells (pkC K M O S z i q) 142 (0, 0)) := block_on (heap_alloc_new w _) hb1
  have hpw1 : w.heap.size < w1.heap.size := (Array.getElem?_eq_some_iff.1 hpk1).1
  have ht : (w1.alloc (.cells zs.toArray 85)).there w1.heap.size 0 83 := by
    have h := there_of_row (heap_alloc_new w1 (.cells zs.toArray 85))
    rwa [show zs.toArray.size = 83 from by simp [hzl]] at h
  have hst := storeCells_run w1.heap.size cs (w1.alloc (.cells zs.toArray 85)) (by rw [hcl]; exact ht) hone
  have hbx := hnb w1 zs hzl
  have hbW : Below w.heap.size w ((w1.alloc (.cells zs.toArray 85)).setCells w1.heap.size 0 cs) := below_setCells (hbw1.alloc hbw1.size _) hbw1.size _ _
  have hpkW : ((w1.alloc (.cells zs.toArray 85)).setCells w1.heap.size 0 cs).heap[w.heap.size]? = some (.cells (pkC K M O S z i q) 142 (0, 0)) := by
    rw [heap_setCells_far _ _ _ _ _ (by omega), heap_alloc_old _ _ hpw1]; exact hpk1
  generalize hW : (w1.alloc (.cells zs.toArray 85)).setCells w1.heap.size 0 cs = W at *
  have hcW := hc.on (Nat.le_refl _) hbW
  have hrl := hbx.lt
  obtain ⟨c0, c1, c2, c3, c4, c5, c6⟩ := pk_cells hpkW
  clear ht hb1 hnew hone hpk1 hnb hzl hbw1 hc
  go_wp2_with fail
  refine (hput _ w1.heap.size hbx).mono ?_
  rintro e w2 ⟨rfl, hbx2, hcg2⟩
  have hpk2 : w2.heap[w.heap.size]? = some (.cells (pkC K M O S z i q) 142 (0, 0)) := by rw [hcg2.block _ (by omega) (by omega)]; exact hpkW
  have hc2 := hcW.block (hcg2.block p (by omega) (by omega))
  have hb2 : Below w.heap.size w w2 := below_chg hbW hcg2 (fun k hk => by omega)
  clear c0 c1 c2 c3 c4 c5 c6 hput hbx hcW hpkW hbW hcg2 hst
  obtain ⟨c0, c1, c2, c3, c4, c5, c6⟩ := pk_cells hpk2
  rcases hee with rfl | rfl
  · have hrg := boxL_range hbx2
    have hbu := cat_build K M O S z (K + M) (ofs K M O S) k2
    have hst := storeCells_at p o (catL K M O S z (K + M) (ofs K M O S) k2) w2 (by rw [catL_length]; exact hc2.there) (catL_one _ _ _ _ _ _ _ _)
    have hfin := cat_stored hc2 K M O S z (K + M) (ofs K M O S) k2
    have hcf := chg_setCells (Chg.of_below hb2 (fun k => k = p)) (b := p) rfl o (catL K M O S z (K + M) (ofs K M O S) k2)
    have hbl := boxL_length K (K + M) z (ofs K M O S) k2
    have hcl2 := catL_length K M O S z (K + M) (ofs K M O S) k2
    generalize catL K M O S z (K + M) (ofs K M O S) k2 = cc at *
    generalize boxL K (K + M) z (ofs K M O S) k2 = bb at *
    have hii : (Tryz.prog.info? 85).map (·.size) = some bb.length := by rw [hbl]; exact Tryz.sizeBox
    have HF := hide (And.intro hfin hcf)
    clear hfin hcf hbx2 hc2
    go_wp2_with (refine wpList_load_mid rfl 85 (.tmp 5) rfl w1.heap.size 0 rfl bb _ hrg Tryz.underlying85 rfl hii ?_)
    go_ret
    first | exact ⟨rfl, fun _ => HF.out.1, fun h => absurd rfl h, HF.out.2⟩ | exact ⟨rfl, HF.out.1, HF.out.2⟩
  · have hcf := Chg.of_below hb2 (fun k => k = p)
    go_wp2_with fail
    go_ret
    first | exact ⟨rfl, fun h => absurd h (by decide), fun _ => hb2, hcf⟩ | exact ⟨rfl, hb2, hcf⟩

end Go.Proofs.YtnjaofkieajnlaaGreat

/- The program's catcher: Hear whole, and all calls as they are called; Listen. -/
namespace Go.Proofs.YtnjaofkieajnlaaGreat
open Go.RowKit

set_option maxRecDepth 100000 in
set_option maxHeartbeats 4000000 in
theorem ohear_no (c : Value) (t : ByteArray) (w : World) (ht : ¬ PacketOk t) :
    Calls Tryz.prog 58 #[c, .string t] w fun e w' => e = .returned (.int .i64 6) ∧ Below w.heap.size w w' := by
  have hrd := fun W => pread_no t W ht
  clear ht
  go_enter Tryz.func58, Tryz.ntmps58
  go_wp2_with fail
  refine (hrd _).mono ?_
  rintro e w1 ⟨rfl, hb1⟩
  have hbf := hb1.alloc hb1.size (.cells pk0 142)
  go_wp2_with fail
  go_ret
  exact ⟨rfl, hbf⟩

/-- What Hear does with a packet, by what first or next does. -/
theorem ohear_by (tk : Bool) (f : Nat) (hf : f = if tk then 92 else 93) (p o : Nat) (t : ByteArray) (P : Int → World → World → Prop) (n : Int) (w : World) (ht : PacketOk t) (hcell : ∀ w1, Below w.heap.size w w1 → w1.cell? ⟨p, o, none⟩ = some (.bool tk))
    (hdo : ∀ w1, Below w.heap.size w w1 → Calls Tryz.prog f #[.pointer (some ⟨p, o, none⟩), .agg (pkC (rK t) (rM t) (rO t) (rS t) (rZ t) (rI t) (rQ t))] w1 fun e w' => e = .returned (.int .i64 n) ∧ P n w1 w') :
    Calls Tryz.prog 58 #[.pointer (some ⟨p, o, none⟩), .string t] w fun e w' => e = .returned (.int .i64 n) ∧ ∃ w1, Below w.heap.size w w1 ∧ P n w1 w' := by
  have hrd := fun W => pread_ok t W ht
  clear ht
  generalize (rK t : Int) = K at *
  generalize (rM t : Int) = M at *
  generalize (rO t : Int) = O at *
  generalize (rS t : Int) = S at *
  generalize (rZ t : Int) = z at *
  generalize (rI t : Int) = i at *
  generalize rQ t = q at *
  cases tk with
  | true =>
    simp only [if_true] at hf
    subst hf
    go_enter Tryz.func58, Tryz.ntmps58
    go_wp2_with fail
    refine (hrd _).mono ?_
    rintro e w1 ⟨rfl, hb1⟩
    have hbf := hb1.alloc hb1.size (.cells (pkC K M O S z i q) 142)
    have c0 := hcell _ hbf
    clear hcell hrd
    go_wp2_with fail
    refine (hdo _ hbf).mono ?_
    rintro e w2 ⟨rfl, hP⟩
    clear c0 hdo
    have HE : ∃ w1, Below w.heap.size w w1 ∧ P n w1 w2 := ⟨_, hbf, hP⟩
    clear hbf hP
    go_wp2_with fail
    go_ret
    exact ⟨rfl, HE⟩
  | false =>
    simp only [Bool.false_eq_true, if_false] at hf
    subst hf
    go_enter Tryz.func58, Tryz.ntmps58
    go_wp2_with fail
    refine (hrd _).mono ?_
    rintro e w1 ⟨rfl, hb1⟩
    have hbf := hb1.alloc hb1.size (.cells (pkC K M O S z i q) 142)
    have c0 := hcell _ hbf
    clear hcell hrd
    go_wp2_with fail
    refine (hdo _ hbf).mono ?_
    rintro e w2 ⟨rfl, hP⟩
    clear c0 hdo
    have HE : ∃ w1, Below w.heap.size w w1 ∧ P n w1 w2 := ⟨_, hbf, hP⟩
    clear hbf hP
    go_wp2_with fail
    go_ret
    exact ⟨rfl, HE⟩

theorem chg_below {S : Nat → Prop} {w w1 w2 : World} (h : Below w.heap.size w w1) (hc : Chg S w1 w2) : Chg S w w2 := (Chg.of_below h S).trans hc (fun _ _ s => s)

theorem ohear_first (p o Ln : Nat) (tt : TypeId) (hh : Nat → Value) (t : ByteArray) (w : World) (ht : PacketOk t) (hc : CatNone w p o Ln tt hh) :
    Calls Tryz.prog 58 #[.pointer (some ⟨p, o, none⟩), .string t] w fun e w' => e = .returned (.int .i64 (putE (left kn0 (ofs (rK t) (rM t) (rO t) (rS t) (rI t)) (rQ t)) (rZ t))) ∧ (putE (left kn0 (ofs (rK t) (rM t) (rO t) (rS t) (rI t)) (rQ t)) (rZ t) = 0 → CatHas w' p o Ln tt hh (rK t) (rM t) (rO t) (rS t) (rZ t) (putK kn0 (ofs (rK t) (rM t) (rO t) (rS t) (rI t)) (rQ t))) ∧ (putE (left kn0 (ofs (rK t) (rM t) (rO t) (rS t) (rI t)) (rQ t)) (rZ t) ≠ 0 → Below w.heap.size w w') ∧ Chg (fun k => k = p) w w' := by
  obtain ⟨h1, h2, h3, h4, h5, h6, h7⟩ := ht.has
  refine (ohear_by false _ rfl p o t (fun n w1 w' => (n = 0 → CatHas w' p o Ln tt hh (rK t) (rM t) (rO t) (rS t) (rZ t) (putK kn0 (ofs (rK t) (rM t) (rO t) (rS t) (rI t)) (rQ t))) ∧ (n ≠ 0 → Below w1.heap.size w1 w') ∧ Chg (fun k => k = p) w1 w') (putE (left kn0 (ofs (rK t) (rM t) (rO t) (rS t) (rI t)) (rQ t)) (rZ t)) w ht (fun w1 hb => (hc.on (Nat.le_refl _) hb).head.1) (fun w1 hb => ?_)).mono ?_
  · simpa using pfirst_any p o Ln tt hh (rK t) (rM t) (rO t) (rS t) (rZ t) (rI t) (rQ t) w1 h1 h2 h3 h4 h5 h6 h7 (hc.on (Nat.le_refl _) hb)
  · rintro e w' ⟨he, w1, hb, ha, hb2, hc2⟩
    exact ⟨he, ha, fun h => hb.trans ((hb2 h).mono hb.size), chg_below hb hc2⟩

theorem ohear_other (p o Ln : Nat) (tt : TypeId) (hh : Nat → Value) (K M O S z n : Nat) (of : Nat → Nat) (kn : Kn) (t : ByteArray) (w : World) (ht : PacketOk t) (hc : CatOff w p o Ln tt hh true K M O S z n of kn) (hno : ¬ (rK t = K ∧ rM t = M ∧ rO t = O ∧ rS t = S ∧ rZ t = z)) :
    Calls Tryz.prog 58 #[.pointer (some ⟨p, o, none⟩), .string t] w fun e w' => e = .returned (.int .i64 7) ∧ Below w.heap.size w w' := by
  refine (ohear_by true _ rfl p o t (fun _ w1 w' => Below w1.heap.size w1 w') 7 w ht (fun w1 hb => (hc.on (Nat.le_refl _) hb).head.1) (fun w1 hb => ?_)).mono ?_
  · simpa using pnext_other p o Ln tt hh K M O S z n of kn (rK t) (rM t) (rO t) (rS t) (rZ t) (rI t) (rQ t) w1 (hc.on (Nat.le_refl _) hb) hno
  · rintro e w' ⟨he, w1, hb, hb2⟩
    exact ⟨he, hb.trans (hb2.mono hb.size)⟩

theorem ohear_put (p o Ln : Nat) (tt : TypeId) (hh : Nat → Value) (kn : Kn) (t : ByteArray) (w : World) (ht : PacketOk t) (hkn : KnOk (rK t) (rZ t) kn) (hc : CatHas w p o Ln tt hh (rK t) (rM t) (rO t) (rS t) (rZ t) kn) :
    Calls Tryz.prog 58 #[.pointer (some ⟨p, o, none⟩), .string t] w fun e w' => e = .returned (.int .i64 (putE (left kn (ofs (rK t) (rM t) (rO t) (rS t) (rI t)) (rQ t)) (rZ t))) ∧ CatHas w' p o Ln tt hh (rK t) (rM t) (rO t) (rS t) (rZ t) (putK kn (ofs (rK t) (rM t) (rO t) (rS t) (rI t)) (rQ t)) ∧ Chg (fun k => k = p) w w' := by
  obtain ⟨h1, h2, h3, h4, h5, h6, h7⟩ := ht.has
  refine (ohear_by true _ rfl p o t (fun n w1 w' => CatHas w' p o Ln tt hh (rK t) (rM t) (rO t) (rS t) (rZ t) (putK kn (ofs (rK t) (rM t) (rO t) (rS t) (rI t)) (rQ t)) ∧ Chg (fun k => k = p) w1 w') (putE (left kn (ofs (rK t) (rM t) (rO t) (rS t) (rI t)) (rQ t)) (rZ t)) w ht (fun w1 hb => (hc.on (Nat.le_refl _) hb).head.1) (fun w1 hb => ?_)).mono ?_
  · simpa using pnext_put p o Ln tt hh (rK t) (rM t) (rO t) (rS t) (rZ t) kn (rI t) (rQ t) w1 h1.2 h2.2 hkn h5.2 h6 h7 (hc.on (Nat.le_refl _) hb)
  · rintro e w' ⟨he, w1, hb, ha, hc2⟩
    exact ⟨he, ha, chg_below hb hc2⟩

/-- A call of the program's catcher is that of what lies in it. -/
theorem hear_by (p : Nat) (t : ByteArray) (n : Int) (P : World → Prop) (w : World) (h : Calls Tryz.prog 58 #[.pointer (some ⟨p, 0, none⟩), .string t] w fun e w' => e = .returned (.int .i64 n) ∧ P w') :
    Calls Tryz.prog 32 #[.pointer (some ⟨p, 0, none⟩), .string t] w fun e w' => e = .returned (.int .i64 n) ∧ P w' := by
  go_enter Tryz.func32, Tryz.ntmps32
  go_wp2_with fail
  refine h.mono ?_
  rintro e w1 ⟨rfl, hP⟩
  go_wp2_with fail
  go_ret
  exact ⟨rfl, hP⟩

theorem wants_by (p : Nat) (n : Int) (P : World → Prop) (w : World) (h : Calls Tryz.prog 60 #[.pointer (some ⟨p, 0, none⟩)] w fun e w' => e = .returned (.int .i64 n) ∧ P w') :
    Calls Tryz.prog 34 #[.pointer (some ⟨p, 0, none⟩)] w fun e w' => e = .returned (.int .i64 n) ∧ P w' := by
  go_enter Tryz.func34, Tryz.ntmps34
  go_wp2_with fail
  refine h.mono ?_
  rintro e w1 ⟨rfl, hP⟩
  go_wp2_with fail
  go_ret
  exact ⟨rfl, hP⟩

theorem object_by (p : Nat) (s : ByteArray) (n : Int) (P : World → Prop) (w : World) (h : Calls Tryz.prog 61 #[.pointer (some ⟨p, 0, none⟩)] w fun e w' => e = .returned (.tuple #[.string s, .int .i64 n]) ∧ P w') :
    Calls Tryz.prog 36 #[.pointer (some ⟨p, 0, none⟩)] w fun e w' => e = .returned (.tuple #[.string s, .int .i64 n]) ∧ P w' := by
  go_enter Tryz.func36, Tryz.ntmps36
  go_wp2_with fail
  refine h.mono ?_
  rintro e w1 ⟨rfl, hP⟩
  go_wp2_with fail
  go_ret2
  exact ⟨rfl, hP⟩

/-- The cells of a catcher that has heard nothing. -/
def noCatL : List Value := (List.range 89).map (catCell false 0 0 0 0 0 0 (fun _ => 0) kn0)

theorem built_nocat : Tryz.prog.built 89 [] = some noCatL.toArray := by kernel_rfl

noncomputable def builtRC (parts : Array (Nat × Value)) : Sem Value := Instr.build 89 parts

theorem build_maskRC (parts : Array (Nat × Value)) : Instr.build 89 parts = builtRC parts := rfl

theorem newCat_at (w : World) : CatNone (w.alloc (.cells noCatL.toArray 89)) w.heap.size 0 89 89 (fun _ => undef) := by
  refine ⟨Nat.le_refl _, _, heap_alloc_new w _, by simp [noCatL], fun i hi => ?_⟩
  unfold noCatL inCat
  rw [if_neg (by omega), if_pos (by omega), Nat.sub_zero, List.getElem?_toArray, List.getElem?_map, List.getElem?_range hi]; rfl

attribute [local go_sem ↓] build_maskRC

set_option maxRecDepth 100000 in
set_option maxHeartbeats 4000000 in
theorem listen_any (w : World) :
    Calls Tryz.prog 13 #[] w fun e w' => ∃ p, e = .returned (.pointer (some ⟨p, 0, none⟩)) ∧ CatNone w' p 0 89 89 (fun _ => undef) ∧ w.heap.size ≤ p ∧ Below w.heap.size w w' := by
  have hb : ∀ w, (builtRC #[]).run Tryz.prog w = .ok (.agg noCatL.toArray) w := fun w => run_build (P := Tryz.prog) w 89 #[] _ built_nocat
  have hat := newCat_at w
  generalize noCatL = cs at *
  go_enter Tryz.func13, Tryz.ntmps13
  go_wp2_with fail
  go_ret
  exact ⟨_, rfl, hat, Nat.le_refl _, (Below.refl _ _).alloc (Nat.le_refl _) _⟩

end Go.Proofs.YtnjaofkieajnlaaGreat

/- The document's own Hear: a first packet of which all is told. -/
namespace Go.Proofs.YtnjaofkieajnlaaGreat
open Go.RowKit

set_option maxRecDepth 100000 in
set_option maxHeartbeats 4000000 in
theorem rhear_first_told (c K M O S z i : Nat) (p q : ByteArray) (w : World) (hrd : ReadSays p K M O S z i q) (hc : w.heap[c]? = some (catB none)) (hK : 1 ≤ K ∧ K ≤ 20) (hM : 1 ≤ M ∧ M ≤ 20) (hO : 1 ≤ O ∧ O ≤ M) (hS : S ≤ 65535) (hz : 0 < z ∧ z ≤ 1000) (hi : i < K + M) (hq : q.size = z) (htd : (told (boxFacts K M O S z []) (2 ^ i) z).2 = true) (hsay : (told (boxFacts K M O S z []) (2 ^ i) z).1 = q) :
    Calls Tryz.prog 33 #[.pointer (some ⟨c, 0, none⟩), .string p] w fun e w' => e = .returned (.int .i64 0) ∧ ∃ r, w.heap.size ≤ r ∧ w'.heap[c]? = some (catB (some ⟨r, 0, none⟩)) ∧ RBoxAt w' r K M O S z (.slice none 0 0) (.slice none 0 0) [] ∧ Chg (fun k => k = c) w w' := by
  have hput := fun W r hb => rput_told r K M O S z i q (.slice none 0 0) (.slice none 0 0) [] W hK hM hO hS hz hb (Nat.zero_le _) (fun x hx => absurd hx (by simp)) hi hq htd
  rw [if_pos hsay] at hput
  clear htd hsay
  go_enter Tryz.func33, Tryz.ntmps33
  go_wp2_with fail
  refine (hrd _).mono ?_
  rintro e w1 ⟨rfl, hb1⟩
  have hc1 := block_on hc hb1
  have hcl : c < w.heap.size := (Array.getElem?_eq_some_iff.1 hc).1
  go_upto_region 5 with fail
  have hbW : Below w1.heap.size w1 ((w1.alloc (specB K M O S)).alloc (rboxB K M O S z (.slice none 0 0) (.slice none 0 0))) := ((Below.refl _ _).alloc (Nat.le_refl _) _).alloc (by simp) _
  have hcW := block_on hc1 hbW
  have hbx : ((w1.alloc (specB K M O S)).alloc (rboxB K M O S z (.slice none 0 0) (.slice none 0 0))).heap[w1.heap.size + 1]? = some (rboxB K M O S z (.slice none 0 0) (.slice none 0 0)) := heap_alloc2_new w1 _ _
  have hww : Below w.heap.size w ((w1.alloc (specB K M O S)).alloc (rboxB K M O S z (.slice none 0 0) (.slice none 0 0))) := hb1.trans (hbW.mono hb1.size)
  have hrr : w.heap.size ≤ w1.heap.size + 1 := by have := hb1.size; omega
  generalize (w1.alloc (specB K M O S)).alloc (rboxB K M O S z (.slice none 0 0) (.slice none 0 0)) = W at *
  generalize w1.heap.size + 1 = r at *
  clear hbW hc1 hc hb1
  have c0 := cat_cell hcW
  go_wp2_with fail
  refine (hput _ r ⟨hbx, World.ownsRow_nil _ _ _ _, World.ownsRow_nil _ _ _ _⟩).mono ?_
  rintro e w2 ⟨rfl, hb2⟩
  have hc2 := block_on hcW hb2
  have hx2 := block_on hbx hb2
  have c2 := cat_cell hc2
  have x2 := found_frozen hc2 0
  have hbw : Below w.heap.size w w2 := hww.trans (hb2.mono hww.size)
  have hbf : RBoxAt (w2.setCell ⟨c, 0, none⟩ (.pointer (some ⟨r, 0, none⟩))) r K M O S z (.slice none 0 0) (.slice none 0 0) [] :=
    ⟨by rw [Below.heap_setCell _ _ _ _ (by show r ≠ c; omega)]; exact hx2, World.ownsRow_nil _ _ _ _, World.ownsRow_nil _ _ _ _⟩
  have hcf := (Chg.of_below hbw (fun k => k = c)).setCell (a := ⟨c, 0, none⟩) (Or.inr rfl) (.pointer (some ⟨r, 0, none⟩))
  have hhf := heap_setCell_same w2 c 0 _ _ (.pointer (some ⟨r, 0, none⟩)) hc2
  have HF := hide (And.intro hhf (And.intro hbf hcf))
  clear hhf hbf hcf hbw hww hb2 c0 hput hbx hcW hx2
  go_wp2_with fail
  go_ret
  exact ⟨rfl, r, hrr, HF.out.1, HF.out.2.1, HF.out.2.2⟩

set_option maxRecDepth 100000 in
set_option maxHeartbeats 4000000 in
theorem rhear_first_contrary (c K M O S z i : Nat) (p q : ByteArray) (w : World) (hrd : ReadSays p K M O S z i q) (hc : w.heap[c]? = some (catB none)) (hK : 1 ≤ K ∧ K ≤ 20) (hM : 1 ≤ M ∧ M ≤ 20) (hO : 1 ≤ O ∧ O ≤ M) (hS : S ≤ 65535) (hz : 0 < z ∧ z ≤ 1000) (hi : i < K + M) (hq : q.size = z) (htd : (told (boxFacts K M O S z []) (2 ^ i) z).2 = true) (hsay : (told (boxFacts K M O S z []) (2 ^ i) z).1 ≠ q) :
    Calls Tryz.prog 33 #[.pointer (some ⟨c, 0, none⟩), .string p] w fun e w' => e = .returned (.int .i64 4) ∧ Below w.heap.size w w' := by
  have hput := fun W r hb => rput_told r K M O S z i q (.slice none 0 0) (.slice none 0 0) [] W hK hM hO hS hz hb (Nat.zero_le _) (fun x hx => absurd hx (by simp)) hi hq htd
  rw [if_neg hsay] at hput
  clear htd hsay
  go_enter Tryz.func33, Tryz.ntmps33
  go_wp2_with fail
  refine (hrd _).mono ?_
  rintro e w1 ⟨rfl, hb1⟩
  have hc1 := block_on hc hb1
  have hcl : c < w.heap.size := (Array.getElem?_eq_some_iff.1 hc).1
  go_upto_region 5 with fail
  have hbW : Below w1.heap.size w1 ((w1.alloc (specB K M O S)).alloc (rboxB K M O S z (.slice none 0 0) (.slice none 0 0))) := ((Below.refl _ _).alloc (Nat.le_refl _) _).alloc (by simp) _
  have hcW := block_on hc1 hbW
  have hbx : ((w1.alloc (specB K M O S)).alloc (rboxB K M O S z (.slice none 0 0) (.slice none 0 0))).heap[w1.heap.size + 1]? = some (rboxB K M O S z (.slice none 0 0) (.slice none 0 0)) := heap_alloc2_new w1 _ _
  have hww : Below w.heap.size w ((w1.alloc (specB K M O S)).alloc (rboxB K M O S z (.slice none 0 0) (.slice none 0 0))) := hb1.trans (hbW.mono hb1.size)
  have hrr : w.heap.size ≤ w1.heap.size + 1 := by have := hb1.size; omega
  generalize (w1.alloc (specB K M O S)).alloc (rboxB K M O S z (.slice none 0 0) (.slice none 0 0)) = W at *
  generalize w1.heap.size + 1 = r at *
  clear hbW hc1 hc hb1
  have c0 := cat_cell hcW
  go_wp2_with fail
  refine (hput _ r ⟨hbx, World.ownsRow_nil _ _ _ _, World.ownsRow_nil _ _ _ _⟩).mono ?_
  rintro e w2 ⟨rfl, hb2⟩
  have hbw : Below w.heap.size w w2 := hww.trans (hb2.mono hww.size)
  clear hww hb2 c0 hput hbx hcW
  go_wp2_with fail
  go_ret
  exact ⟨rfl, hbw⟩

end Go.Proofs.YtnjaofkieajnlaaGreat

/- The document's own Hear: further packets. -/
namespace Go.Proofs.YtnjaofkieajnlaaGreat
open Go.RowKit

set_option maxRecDepth 100000 in
set_option maxHeartbeats 4000000 in
theorem rhear_next (c r K M O S z i : Nat) (av pv : Value) (ps : List (Nat × ByteArray)) (p q : ByteArray) (w : World) (hrd : ReadSays p K M O S z i q) (hc : w.heap[c]? = some (catB (some ⟨r, 0, none⟩))) (hbox : RBoxAt w r K M O S z av pv ps) (hps : ps.length ≤ 900) (hin : ∀ x ∈ ps, x.1 < K + M ∧ x.2.size = z) (hcb : ¬ fpR r av pv c) (hK : 1 ≤ K ∧ K ≤ 20) (hM : 1 ≤ M ∧ M ≤ 20) (hO : 1 ≤ O ∧ O ≤ M) (hS : S ≤ 65535) (hz : 0 < z ∧ z ≤ 1000) (hi : i < K + M) (hq : q.size = z) (htd : (told (boxFacts K M O S z ps) (2 ^ i) z).2 = false) :
    Calls Tryz.prog 33 #[.pointer (some ⟨c, 0, none⟩), .string p] w fun e w' => e = .returned (.int .i64 0) ∧ ∃ av' pv', w'.heap[c]? = some (catB (some ⟨r, 0, none⟩)) ∧ RBoxAt w' r K M O S z av' pv' (ps ++ [(i, q)]) ∧ Chg (fun k => k = c ∨ fpR r av pv k) w w' ∧ (∀ k, fpR r av' pv' k → fpR r av pv k ∨ w.heap.size ≤ k) := by
  have hput := fun W hb => rput_new r K M O S z i q av pv ps W hK hM hO hS hz hb hps hin hi hq htd
  clear htd hin
  go_enter Tryz.func33, Tryz.ntmps33
  go_wp2_with fail
  refine (hrd _).mono ?_
  rintro e w1 ⟨rfl, hb1⟩
  have hc1 := block_on hc hb1
  have hcl : c < w.heap.size := (Array.getElem?_eq_some_iff.1 hc).1
  go_upto_region 5 with fail
  have hbW : Below w1.heap.size w1 ((w1.alloc (specB K M O S)).alloc (rboxB K M O S z (.slice none 0 0) (.slice none 0 0))) := ((Below.refl _ _).alloc (Nat.le_refl _) _).alloc (by simp) _
  have hcW := block_on hc1 hbW
  have hsW : ((w1.alloc (specB K M O S)).alloc (rboxB K M O S z (.slice none 0 0) (.slice none 0 0))).heap[w1.heap.size]? = some (specB K M O S) := block_on (heap_alloc_new w1 _) ((Below.refl _ _).alloc (Nat.le_refl _) _)
  have hww : Below w.heap.size w ((w1.alloc (specB K M O S)).alloc (rboxB K M O S z (.slice none 0 0) (.slice none 0 0))) := hb1.trans (hbW.mono hb1.size)
  have hbx : RBoxAt ((w1.alloc (specB K M O S)).alloc (rboxB K M O S z (.slice none 0 0) (.slice none 0 0))) r K M O S z av pv ps := ⟨block_on hbox.box hww, owns_below hbox.oa hww, owns_below hbox.op hww⟩
  generalize (w1.alloc (specB K M O S)).alloc (rboxB K M O S z (.slice none 0 0) (.slice none 0 0)) = W at *
  generalize w1.heap.size + 1 = r1 at *
  generalize w1.heap.size = h1 at *
  clear hbW hc1 hc hb1 hbox
  have c0 := cat_cell hcW
  obtain ⟨d0, d1, d2, d3, d4, d5, d6, hr⟩ := rbox_cells hbx.box
  obtain ⟨s0, s1, s2, s3⟩ := spec_cells hsW
  clear d5 d6
  go_wp2_with fail
  go_quiet (fail)
  have hcV : (W.drewN nq).heap[c]? = some (catB (some ⟨r, 0, none⟩)) := hcW
  have hbV : RBoxAt (W.drewN nq) r K M O S z av pv ps := ⟨hbx.box, hbx.oa, hbx.op⟩
  have hwV : Below w.heap.size w (W.drewN nq) := hww.trans ⟨rfl, rfl, rfl, Nat.le_refl _, fun _ _ => rfl⟩
  generalize W.drewN nq = V at *
  clear hcW hbx hww c0 d0 d1 d2 d3 d4 s0 s1 s2 s3 hsW hr
  have c0 := cat_cell hcV
  go_wp2_with fail
  refine (hput _ hbV).mono ?_
  rintro e w2 ⟨rfl, av', pv', hb2, hcg, hnew⟩
  have hc2 : w2.heap[c]? = some (catB (some ⟨r, 0, none⟩)) := by
    rw [hcg.block c (by have := hwV.size; omega) hcb]; exact hcV
  have c2 := cat_cell hc2
  have x2 := found_frozen hc2 0
  have hfp : ∀ k, fpR r av' pv' k → fpR r av pv k ∨ w.heap.size ≤ k := fun k hk => by
    rcases hnew k hk with h | h
    · exact Or.inl h
    · have := hwV.size; exact Or.inr (by omega)
  have hcn : ∀ k, fpR r av' pv' k → k ≠ c := fun k hk e => by
    subst e
    rcases hfp k hk with h | h
    · exact hcb h
    · omega
  have hbw : Chg (fun k => k = c ∨ fpR r av pv k) w w2 := ⟨hcg.os.trans hwV.os, hcg.tape.trans hwV.tape, hcg.output.trans hwV.output, Nat.le_trans hwV.size hcg.size, fun k hk hn => (hcg.block k (Nat.lt_of_lt_of_le hk hwV.size) (fun s => hn (Or.inr s))).trans (hwV.block k hk)⟩
  have hbf : RBoxAt (w2.setCell ⟨c, 0, none⟩ (.pointer (some ⟨r, 0, none⟩))) r K M O S z av' pv' (ps ++ [(i, q)]) :=
    ⟨by rw [Below.heap_setCell _ _ _ _ (hcn r (Or.inl rfl))]; exact hb2.box,
      owns_of_block hb2.oa (fun k hk => Below.heap_setCell _ _ _ _ (hcn k (Or.inr (Or.inl hk)))),
      owns_of_block hb2.op (fun k hk => Below.heap_setCell _ _ _ _ (hcn k (Or.inr (Or.inr hk))))⟩
  have hcf := hbw.setCell (a := ⟨c, 0, none⟩) (Or.inr (Or.inl rfl)) (.pointer (some ⟨r, 0, none⟩))
  have hhf := heap_setCell_same w2 c 0 _ _ (.pointer (some ⟨r, 0, none⟩)) hc2
  have HF := hide (And.intro hhf (And.intro hbf (And.intro hcf hfp)))
  clear hhf hbf hcf hfp hbw hwV hb2 hcg hnew hcn hput hbV hcV c0
  go_wp2_with fail
  go_ret
  exact ⟨rfl, av', pv', HF.out.1, HF.out.2.1, HF.out.2.2.1, HF.out.2.2.2⟩

end Go.Proofs.YtnjaofkieajnlaaGreat

/- The document's own Hear: further packets of which all is told. -/
namespace Go.Proofs.YtnjaofkieajnlaaGreat
open Go.RowKit

set_option maxRecDepth 100000 in
set_option maxHeartbeats 4000000 in
theorem rhear_told (c r K M O S z i : Nat) (av pv : Value) (ps : List (Nat × ByteArray)) (p q : ByteArray) (w : World) (hrd : ReadSays p K M O S z i q) (hc : w.heap[c]? = some (catB (some ⟨r, 0, none⟩))) (hbox : RBoxAt w r K M O S z av pv ps) (hps : ps.length ≤ 900) (hin : ∀ x ∈ ps, x.1 < K + M ∧ x.2.size = z) (hcb : ¬ fpR r av pv c) (hK : 1 ≤ K ∧ K ≤ 20) (hM : 1 ≤ M ∧ M ≤ 20) (hO : 1 ≤ O ∧ O ≤ M) (hS : S ≤ 65535) (hz : 0 < z ∧ z ≤ 1000) (hi : i < K + M) (hq : q.size = z) (htd : (told (boxFacts K M O S z ps) (2 ^ i) z).2 = true) (hsay : (told (boxFacts K M O S z ps) (2 ^ i) z).1 = q) :
    Calls Tryz.prog 33 #[.pointer (some ⟨c, 0, none⟩), .string p] w fun e w' => e = .returned (.int .i64 0) ∧ w'.heap[c]? = some (catB (some ⟨r, 0, none⟩)) ∧ RBoxAt w' r K M O S z av pv ps ∧ Chg (fun k => k = c) w w' := by
  have hput := fun W hb => rput_told r K M O S z i q av pv ps W hK hM hO hS hz hb hps hin hi hq htd
  rw [if_pos hsay] at hput
  clear htd hin hsay
  go_enter Tryz.func33, Tryz.ntmps33
  go_wp2_with fail
  refine (hrd _).mono ?_
  rintro e w1 ⟨rfl, hb1⟩
  have hc1 := block_on hc hb1
  have hcl : c < w.heap.size := (Array.getElem?_eq_some_iff.1 hc).1
  go_upto_region 5 with fail
  have hbW : Below w1.heap.size w1 ((w1.alloc (specB K M O S)).alloc (rboxB K M O S z (.slice none 0 0) (.slice none 0 0))) := ((Below.refl _ _).alloc (Nat.le_refl _) _).alloc (by simp) _
  have hcW := block_on hc1 hbW
  have hsW : ((w1.alloc (specB K M O S)).alloc (rboxB K M O S z (.slice none 0 0) (.slice none 0 0))).heap[w1.heap.size]? = some (specB K M O S) := block_on (heap_alloc_new w1 _) ((Below.refl _ _).alloc (Nat.le_refl _) _)
  have hww : Below w.heap.size w ((w1.alloc (specB K M O S)).alloc (rboxB K M O S z (.slice none 0 0) (.slice none 0 0))) := hb1.trans (hbW.mono hb1.size)
  have hbx : RBoxAt ((w1.alloc (specB K M O S)).alloc (rboxB K M O S z (.slice none 0 0) (.slice none 0 0))) r K M O S z av pv ps := ⟨block_on hbox.box hww, owns_below hbox.oa hww, owns_below hbox.op hww⟩
  generalize (w1.alloc (specB K M O S)).alloc (rboxB K M O S z (.slice none 0 0) (.slice none 0 0)) = W at *
  generalize w1.heap.size + 1 = r1 at *
  generalize w1.heap.size = h1 at *
  clear hbW hc1 hc hb1 hbox
  have c0 := cat_cell hcW
  obtain ⟨d0, d1, d2, d3, d4, d5, d6, hr⟩ := rbox_cells hbx.box
  obtain ⟨s0, s1, s2, s3⟩ := spec_cells hsW
  clear d5 d6
  go_wp2_with fail
  go_quiet (fail)
  have hcV : (W.drewN nq).heap[c]? = some (catB (some ⟨r, 0, none⟩)) := hcW
  have hbV : RBoxAt (W.drewN nq) r K M O S z av pv ps := ⟨hbx.box, hbx.oa, hbx.op⟩
  have hwV : Below w.heap.size w (W.drewN nq) := hww.trans ⟨rfl, rfl, rfl, Nat.le_refl _, fun _ _ => rfl⟩
  generalize W.drewN nq = V at *
  clear hcW hbx hww c0 d0 d1 d2 d3 d4 s0 s1 s2 s3 hsW hr
  have c0 := cat_cell hcV
  go_wp2_with fail
  refine (hput _ hbV).mono ?_
  rintro e w2 ⟨rfl, hb2⟩
  have hc2 := block_on hcV hb2
  have c2 := cat_cell hc2
  have x2 := found_frozen hc2 0
  have hcn : ∀ k, fpR r av pv k → k ≠ c := fun k hk e => by subst e; exact hcb hk
  have hbw : Below w.heap.size w w2 := hwV.trans (hb2.mono hwV.size)
  have hbf : RBoxAt (w2.setCell ⟨c, 0, none⟩ (.pointer (some ⟨r, 0, none⟩))) r K M O S z av pv ps :=
    ⟨by rw [Below.heap_setCell _ _ _ _ (hcn r (Or.inl rfl))]; exact block_on hbV.box hb2,
      owns_of_block (owns_below hbV.oa hb2) (fun k hk => Below.heap_setCell _ _ _ _ (hcn k (Or.inr (Or.inl hk)))),
      owns_of_block (owns_below hbV.op hb2) (fun k hk => Below.heap_setCell _ _ _ _ (hcn k (Or.inr (Or.inr hk))))⟩
  have hcf := (Chg.of_below hbw (fun k => k = c)).setCell (a := ⟨c, 0, none⟩) (Or.inr rfl) (.pointer (some ⟨r, 0, none⟩))
  have hhf := heap_setCell_same w2 c 0 _ _ (.pointer (some ⟨r, 0, none⟩)) hc2
  have HF := hide (And.intro hhf (And.intro hbf hcf))
  clear hhf hbf hcf hbw hwV hb2 hcn hput hbV hcV c0
  go_wp2_with fail
  go_ret
  exact ⟨rfl, HF.out.1, HF.out.2.1, HF.out.2.2⟩

set_option maxRecDepth 100000 in
set_option maxHeartbeats 4000000 in
theorem rhear_contrary (c r K M O S z i : Nat) (av pv : Value) (ps : List (Nat × ByteArray)) (p q : ByteArray) (w : World) (hrd : ReadSays p K M O S z i q) (hc : w.heap[c]? = some (catB (some ⟨r, 0, none⟩))) (hbox : RBoxAt w r K M O S z av pv ps) (hps : ps.length ≤ 900) (hin : ∀ x ∈ ps, x.1 < K + M ∧ x.2.size = z) (hK : 1 ≤ K ∧ K ≤ 20) (hM : 1 ≤ M ∧ M ≤ 20) (hO : 1 ≤ O ∧ O ≤ M) (hS : S ≤ 65535) (hz : 0 < z ∧ z ≤ 1000) (hi : i < K + M) (hq : q.size = z) (htd : (told (boxFacts K M O S z ps) (2 ^ i) z).2 = true) (hsay : (told (boxFacts K M O S z ps) (2 ^ i) z).1 ≠ q) :
    Calls Tryz.prog 33 #[.pointer (some ⟨c, 0, none⟩), .string p] w fun e w' => e = .returned (.int .i64 4) ∧ Below w.heap.size w w' := by
  have hput := fun W hb => rput_told r K M O S z i q av pv ps W hK hM hO hS hz hb hps hin hi hq htd
  rw [if_neg hsay] at hput
  clear htd hin hsay
  go_enter Tryz.func33, Tryz.ntmps33
  go_wp2_with fail
  refine (hrd _).mono ?_
  rintro e w1 ⟨rfl, hb1⟩
  have hc1 := block_on hc hb1
  have hcl : c < w.heap.size := (Array.getElem?_eq_some_iff.1 hc).1
  go_upto_region 5 with fail
  have hbW : Below w1.heap.size w1 ((w1.alloc (specB K M O S)).alloc (rboxB K M O S z (.slice none 0 0) (.slice none 0 0))) := ((Below.refl _ _).alloc (Nat.le_refl _) _).alloc (by simp) _
  have hcW := block_on hc1 hbW
  have hsW : ((w1.alloc (specB K M O S)).alloc (rboxB K M O S z (.slice none 0 0) (.slice none 0 0))).heap[w1.heap.size]? = some (specB K M O S) := block_on (heap_alloc_new w1 _) ((Below.refl _ _).alloc (Nat.le_refl _) _)
  have hww : Below w.heap.size w ((w1.alloc (specB K M O S)).alloc (rboxB K M O S z (.slice none 0 0) (.slice none 0 0))) := hb1.trans (hbW.mono hb1.size)
  have hbx : RBoxAt ((w1.alloc (specB K M O S)).alloc (rboxB K M O S z (.slice none 0 0) (.slice none 0 0))) r K M O S z av pv ps := ⟨block_on hbox.box hww, owns_below hbox.oa hww, owns_below hbox.op hww⟩
  generalize (w1.alloc (specB K M O S)).alloc (rboxB K M O S z (.slice none 0 0) (.slice none 0 0)) = W at *
  generalize w1.heap.size + 1 = r1 at *
  generalize w1.heap.size = h1 at *
  clear hbW hc1 hc hb1 hbox
  have c0 := cat_cell hcW
  obtain ⟨d0, d1, d2, d3, d4, d5, d6, hr⟩ := rbox_cells hbx.box
  obtain ⟨s0, s1, s2, s3⟩ := spec_cells hsW
  clear d5 d6
  go_wp2_with fail
  go_quiet (fail)
  have hcV : (W.drewN nq).heap[c]? = some (catB (some ⟨r, 0, none⟩)) := hcW
  have hbV : RBoxAt (W.drewN nq) r K M O S z av pv ps := ⟨hbx.box, hbx.oa, hbx.op⟩
  have hwV : Below w.heap.size w (W.drewN nq) := hww.trans ⟨rfl, rfl, rfl, Nat.le_refl _, fun _ _ => rfl⟩
  generalize W.drewN nq = V at *
  clear hcW hbx hww c0 d0 d1 d2 d3 d4 s0 s1 s2 s3 hsW hr
  have c0 := cat_cell hcV
  go_wp2_with fail
  refine (hput _ hbV).mono ?_
  rintro e w2 ⟨rfl, hb2⟩
  have hbw : Below w.heap.size w w2 := hwV.trans (hb2.mono hwV.size)
  clear hwV hb2 hput hbV hcV c0
  go_wp2_with fail
  go_ret
  exact ⟨rfl, hbw⟩

end Go.Proofs.YtnjaofkieajnlaaGreat

/- The document's own Hear: packets of another object. -/
namespace Go.Proofs.YtnjaofkieajnlaaGreat
open Go.RowKit

set_option maxRecDepth 100000 in
set_option maxHeartbeats 4000000 in
theorem rhear_other (c r K M O S z i K' M' O' S' z' : Nat) (av pv : Value) (p q : ByteArray) (w : World) (hrd : ReadSays p K M O S z i q) (hc : w.heap[c]? = some (catB (some ⟨r, 0, none⟩))) (hbox : w.heap[r]? = some (rboxB K' M' O' S' z' av pv)) (hno : ¬ (K' = K ∧ M' = M ∧ O' = O ∧ S' = S ∧ z' = z)) :
    Calls Tryz.prog 33 #[.pointer (some ⟨c, 0, none⟩), .string p] w fun e w' => e = .returned (.int .i64 7) ∧ Below w.heap.size w w' := by
  go_enter Tryz.func33, Tryz.ntmps33
  go_wp2_with fail
  refine (hrd _).mono ?_
  rintro e w1 ⟨rfl, hb1⟩
  have hc1 := block_on hc hb1
  go_upto_region 5 with fail
  have hbW : Below w1.heap.size w1 ((w1.alloc (specB K M O S)).alloc (rboxB K M O S z (.slice none 0 0) (.slice none 0 0))) := ((Below.refl _ _).alloc (Nat.le_refl _) _).alloc (by simp) _
  have hcW := block_on hc1 hbW
  have hsW : ((w1.alloc (specB K M O S)).alloc (rboxB K M O S z (.slice none 0 0) (.slice none 0 0))).heap[w1.heap.size]? = some (specB K M O S) := block_on (heap_alloc_new w1 _) ((Below.refl _ _).alloc (Nat.le_refl _) _)
  have hww : Below w.heap.size w ((w1.alloc (specB K M O S)).alloc (rboxB K M O S z (.slice none 0 0) (.slice none 0 0))) := hb1.trans (hbW.mono hb1.size)
  have hbx := block_on hbox hww
  generalize (w1.alloc (specB K M O S)).alloc (rboxB K M O S z (.slice none 0 0) (.slice none 0 0)) = W at *
  generalize w1.heap.size + 1 = r1 at *
  generalize w1.heap.size = h1 at *
  clear hbW hc1 hc hb1 hbox
  have c0 := cat_cell hcW
  obtain ⟨d0, d1, d2, d3, d4, d5, d6, hr⟩ := rbox_cells hbx
  obtain ⟨s0, s1, s2, s3⟩ := spec_cells hsW
  have hbf : ∀ n, Below w.heap.size w (W.drewN n) := fun n => hww.trans ⟨rfl, rfl, rfl, Nat.le_refl _, fun _ _ => rfl⟩
  clear d5 d6 hww
  by_cases e1 : K' = K ∧ M' = M ∧ O' = O ∧ S' = S
  · have hzz : ((z' : Int) != (z : Int)) = true := by simp; intro e; exact hno ⟨e1.1, e1.2.1, e1.2.2.1, e1.2.2.2, by omega⟩
    obtain ⟨rfl, rfl, rfl, rfl⟩ := e1
    clear hno
    go_wp2_with fail
    go_quiet (fail)
    go_wp2_with fail
    go_ret
    exact ⟨rfl, hbf _⟩
  · have hor : ((K' : Int) == (K : Int)) = false ∨ (K' = K ∧ ((M' : Int) == (M : Int)) = false) ∨ (K' = K ∧ M' = M ∧ ((O' : Int) == (O : Int)) = false) ∨ (K' = K ∧ M' = M ∧ O' = O ∧ ((S' : Int) == (S : Int)) = false) := by
      simp only [beq_eq_false_iff_ne, ne_eq, Int.natCast_inj]
      omega
    clear hno e1
    rcases hor with h | ⟨rfl, h⟩ | ⟨rfl, rfl, h⟩ | ⟨rfl, rfl, rfl, h⟩
    all_goals
      go_wp2_with fail
      go_quiet (fail)
      go_wp2_with fail
      go_ret
      exact ⟨rfl, hbf _⟩

end Go.Proofs.YtnjaofkieajnlaaGreat
