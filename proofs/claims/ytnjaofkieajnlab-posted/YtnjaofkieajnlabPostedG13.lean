/- Texts of the proof, part 14. -/
import Derived.Test.YtnjaofkieajnlabPostedG1
import Derived.Test.YtnjaofkieajnlabPostedG11
import Derived.Test.YtnjaofkieajnlabPostedG12
import Derived.Test.YtnjaofkieajnlabPostedG3
import Derived.Test.YtnjaofkieajnlabPostedG6

/- The program's catcher: Hear of the first packet. -/
namespace Go.Proofs.Ytnjaofkieajnlab
open Go.RowKit

/-- A row behind many stores. -/
theorem row_setCells {b : Nat} {t : TypeId} {n : Nat} : ∀ (vs : List Value) (o : Nat) (w : World) (f : Nat → Value), w.rowIs b t n f → (w.setCells b o vs).rowIs b t n (fun j => if o ≤ j ∧ j < o + vs.length then vs.getD (j - o) undef else f j)
  | [], o, w, f, h => h.congr (fun j _ => by rw [if_neg (by simp)])
  | v :: r, o, w, f, h => by
    refine (row_setCells r (o + 1) _ _ (h.set o v)).congr (fun j _ => ?_)
    by_cases h1 : j = o
    · subst h1
      rw [if_neg (by omega), if_pos rfl, if_pos (by simp), Nat.sub_self]
      rfl
    · by_cases h2 : o + 1 ≤ j ∧ j < o + 1 + r.length
      · rw [if_pos h2, if_pos (by simp; omega), show j - o = (j - (o + 1)) + 1 by omega]; rfl
      · rw [if_neg h2, if_neg h1, if_neg (by simp; omega)]

/-- The cells of a box, and of a catcher that has heard, as lists. -/
def boxL (K n z : Nat) (T : Nat → Nat) (kn : Kn) : List Value := (List.range 83).map (boxCell K n z T kn)

def catL (K M O S z n : Nat) (T : Nat → Nat) (kn : Kn) : List Value := (List.range 89).map (catCell true K M O S z n T kn)

theorem boxL_length (K n z : Nat) (T : Nat → Nat) (kn : Kn) : (boxL K n z T kn).length = 83 := by simp [boxL]

theorem catL_length (K M O S z n : Nat) (T : Nat → Nat) (kn : Kn) : (catL K M O S z n T kn).length = 89 := by simp [catL]

theorem boxL_get (K n z : Nat) (T : Nat → Nat) (kn : Kn) (i : Nat) (hi : i < 83) : (boxL K n z T kn)[i]? = some (boxCell K n z T kn i) := by
  unfold boxL
  rw [List.getElem?_map, List.getElem?_range hi]; rfl

theorem catL_get (K M O S z n : Nat) (T : Nat → Nat) (kn : Kn) (i : Nat) (hi : i < 89) : (catL K M O S z n T kn)[i]? = some (catCell true K M O S z n T kn i) := by
  unfold catL
  rw [List.getElem?_map, List.getElem?_range hi]; rfl

theorem boxCell_one (K n z : Nat) (T : Nat → Nat) (kn : Kn) (i : Nat) : (boxCell K n z T kn i).oneCell' = true := by
  unfold boxCell
  repeat' split
  all_goals rfl

theorem catL_one (K M O S z n : Nat) (T : Nat → Nat) (kn : Kn) : ∀ v ∈ catL K M O S z n T kn, v.oneCell' = true := by
  intro v hv
  obtain ⟨i, _, rfl⟩ := List.mem_map.1 hv
  unfold catCell
  repeat' split
  all_goals first | rfl | exact boxCell_one _ _ _ _ _ _

theorem boxL_range {w : World} {p o Ln : Nat} {tt : TypeId} {hh : Nat → Value} {K n z : Nat} {T : Nat → Nat} {kn : Kn} (h : BoxOff w p o Ln tt hh K n z T kn) : w.rangeAt p o (boxL K n z T kn) := fun j v hv => by
  have hj : j < 83 := by have := (List.getElem?_eq_some_iff.1 hv).1; rwa [boxL_length] at this
  rw [boxL_get _ _ _ _ _ _ hj] at hv
  rw [h.cell hj, hv]

/-- A new box, stored. -/
theorem newBox_off (w : World) (zs : List Value) (hzl : zs.length = 83) (K n z : Nat) (T : Nat → Nat) : BoxOff ((w.alloc (.cells zs.toArray 63)).setCells w.heap.size 0 (newL K n z T)) w.heap.size 0 83 63 (fun _ => undef) K n z T kn0 := by
  refine ⟨Nat.le_refl _, ?_⟩
  have h0 : (w.alloc (.cells zs.toArray 63)).rowIs w.heap.size 63 83 (fun i => zs.getD i undef) := by
    have := World.rowIs_alloc w zs.toArray 63 (fun i => zs.getD i undef) (fun i hi => by
      rw [List.size_toArray] at hi
      rw [List.getElem?_toArray, List.getElem?_eq_getElem hi, List.getD_eq_getElem?_getD, List.getElem?_eq_getElem hi]; rfl)
    have e : zs.toArray.size = 83 := by simp [hzl]
    rwa [e] at this
  refine (row_setCells (newL K n z T) 0 _ _ h0).congr (fun i hi => ?_)
  rw [if_pos (by rw [newL_length]; omega), Nat.sub_zero]
  unfold inBox
  rw [if_neg (by omega), if_pos (by omega), Nat.sub_zero]
  unfold newL
  rw [List.getD_eq_getElem?_getD, List.getElem?_map, List.getElem?_range hi]; rfl

/-- A catcher, stored. -/
theorem cat_stored {w : World} {p o Ln : Nat} {tt : TypeId} {hh : Nat → Value} {tk : Bool} {K' M' O' S' z' n' : Nat} {of' : Nat → Nat} {kn' : Kn} (h : CatOff w p o Ln tt hh tk K' M' O' S' z' n' of' kn') (K M O S z n : Nat) (T : Nat → Nat) (kn : Kn) : CatOff (w.setCells p o (catL K M O S z n T kn)) p o Ln tt hh true K M O S z n T kn := by
  refine ⟨h.1, (row_setCells _ o _ _ h.2).congr (fun i hi => ?_)⟩
  rw [catL_length]
  unfold inCat
  by_cases h1 : i < o
  · rw [if_neg (by omega), if_pos h1, if_pos h1]
  · by_cases h2 : i < o + 89
    · rw [if_pos (by omega), if_neg h1, if_pos h2, List.getD_eq_getElem?_getD, catL_get _ _ _ _ _ _ _ _ _ (by omega)]; rfl
    · rw [if_neg (by omega), if_neg h1, if_neg h2, if_neg h1, if_neg h2]

noncomputable def builtCat (parts : Array (Nat × Value)) : Sem Value := Instr.build 67 parts

theorem build_maskC (parts : Array (Nat × Value)) : Instr.build 67 parts = builtCat parts := rfl

theorem built_cat (K M O S z n : Nat) (T : Nat → Nat) (kn : Kn) : Try.prog.built 67 [(0, .bool true), (1, specV K M O S), (2, .int .i64 (z : Int)), (3, .agg (boxL K n z T kn).toArray)] = some (catL K M O S z n T kn).toArray := by kernel_rfl

theorem cat_build (K M O S z n : Nat) (T : Nat → Nat) (kn : Kn) (w : World) : (builtCat #[(0, .bool true), (1, specV K M O S), (2, .int .i64 (z : Int)), (3, .agg (boxL K n z T kn).toArray)]).run Try.prog w = .ok (.agg (catL K M O S z n T kn).toArray) w :=
  run_build (P := Try.prog) w 67 #[(0, .bool true), (1, specV K M O S), (2, .int .i64 (z : Int)), (3, .agg (boxL K n z T kn).toArray)] _ (built_cat K M O S z n T kn)

theorem storeCells_at (b o : Nat) (vs : List Value) (w : World) (ht : w.there b o vs.length) (h1 : ∀ v ∈ vs, v.oneCell' = true) : (storeCells ⟨b, o, none⟩ vs).run Try.prog w = .ok () (w.setCells b o vs) :=
  run_storeCells_cells (P := Try.prog) b o vs 0 w (fun j hj => by simpa using (ht j hj).1) (fun j hj => by simpa using (ht j hj).2) h1

theorem chg_setCells {S : Nat → Prop} {w w' : World} (h : Chg S w w') {b : Nat} (hb : S b) (o : Nat) (vs : List Value) : Chg S w (w'.setCells b o vs) := by
  induction vs generalizing o w' with
  | nil => exact h
  | cons v vs ih => exact ih (h.setCell (a := ⟨b, o, none⟩) (Or.inr hb) v) (o + 1)

attribute [local go_sem ↓] build_maskC

set_option maxRecDepth 100000 in
set_option maxHeartbeats 8000000 in
theorem pfirst_any (p o Ln : Nat) (tt : TypeId) (hh : Nat → Value) (K M O S z : Nat) (i : Nat) (q : ByteArray) (w : World) (hK : 1 ≤ K ∧ K ≤ 20) (hM : 1 ≤ M ∧ M ≤ 20) (hO : 1 ≤ O ∧ O ≤ M) (hS : S ≤ 65535) (hz : 1 ≤ z ∧ z ≤ 16) (hi : i < K + M) (hq : q.size = z) (hc : CatNone w p o Ln tt hh) :
    Calls Try.prog 52 #[.pointer (some ⟨p, o, none⟩), .agg (pkC K M O S z i q)] w fun e w' => e = .returned (.int .i64 (putE (left kn0 (ofs K M O S i) q) z)) ∧ (putE (left kn0 (ofs K M O S i) q) z = 0 → CatHas w' p o Ln tt hh K M O S z (putK kn0 (ofs K M O S i) q)) ∧ (putE (left kn0 (ofs K M O S i) q) z ≠ 0 → Below w.heap.size w w') ∧ Chg (fun k => k = p) w w' := by
  have hput := fun W r hW => qput_ok r 0 83 63 (fun _ => undef) K (K + M) z i q (ofs K M O S) kn0 W hK.2 (kn0_ok K z) (ofs_lt K M O S) (by omega) (by omega) hi hq hW
  have hnew := fun W => bnew_ok K M O S z W hK hM hO hS hz
  have hpl := hc.lt
  have hzb : ∀ w, (zeroValue 63).run Try.prog w = .ok (.agg zeroL.toArray) w := zero_box
  have hzl : zeroL.length = 83 := newL_length 0 0 0 (fun _ => 0)
  have hcl := newL_length K (K + M) z (ofs K M O S)
  have hone := newL_one K (K + M) z (ofs K M O S)
  have hnb := fun (W : World) (zs : List Value) (h : zs.length = 83) => newBox_off W zs h K (K + M) z (ofs K M O S)
  unfold newV at hnew
  generalize newL K (K + M) z (ofs K M O S) = cs at *
  generalize zeroL = zs at *
  obtain ⟨ee, he⟩ : ∃ ee, ee = putE (left kn0 (ofs K M O S i) q) z := ⟨_, rfl⟩
  have hee : ee = 0 ∨ ee = 4 := by rw [he]; unfold putE; split <;> simp
  obtain ⟨k2, hk2⟩ : ∃ k2, k2 = putK kn0 (ofs K M O S i) q := ⟨_, rfl⟩
  rw [← he, ← hk2] at hput ⊢
  clear he hk2
  go_enter Try.func52, Try.ntmps52
  go_wp2_with fail
  refine (hnew _).mono ?_
  rintro e w1 ⟨rfl, hb1⟩
  have hbw1 : Below w.heap.size w w1 := ((Below.refl w.heap.size w).alloc (Nat.le_refl _) _).trans (hb1.mono (by simp))
  have hpk1 : w1.heap[w.heap.size]? = some (.cells (pkC K M O S z i q) 84 (0, 0)) := block_on (heap_alloc_new w _) hb1
  have hpw1 : w.heap.size < w1.heap.size := (Array.getElem?_eq_some_iff.1 hpk1).1
  have ht : (w1.alloc (.cells zs.toArray 63)).there w1.heap.size 0 83 := by
    have h := there_of_row (heap_alloc_new w1 (.cells zs.toArray 63))
    rwa [show zs.toArray.size = 83 from by simp [hzl]] at h
  have hst := storeCells_run w1.heap.size cs (w1.alloc (.cells zs.toArray 63)) (by rw [hcl]; exact ht) hone
  have hbx := hnb w1 zs hzl
  have hbW : Below w.heap.size w ((w1.alloc (.cells zs.toArray 63)).setCells w1.heap.size 0 cs) := below_setCells (hbw1.alloc hbw1.size _) hbw1.size _ _
  have hpkW : ((w1.alloc (.cells zs.toArray 63)).setCells w1.heap.size 0 cs).heap[w.heap.size]? = some (.cells (pkC K M O S z i q) 84 (0, 0)) := by
    rw [heap_setCells_far _ _ _ _ _ (by omega), heap_alloc_old _ _ hpw1]; exact hpk1
  generalize hW : (w1.alloc (.cells zs.toArray 63)).setCells w1.heap.size 0 cs = W at *
  have hcW := hc.on (Nat.le_refl _) hbW
  have hrl := hbx.lt
  obtain ⟨c0, c1, c2, c3, c4, c5, c6⟩ := pk_cells hpkW
  clear ht hb1 hnew hone hpk1 hnb hzl hbw1 hc
  go_wp2_with fail
  refine (hput _ w1.heap.size hbx).mono ?_
  rintro e w2 ⟨rfl, hbx2, hcg2⟩
  have hpk2 : w2.heap[w.heap.size]? = some (.cells (pkC K M O S z i q) 84 (0, 0)) := by rw [hcg2.block _ (by omega) (by omega)]; exact hpkW
  have hc2 := hcW.block (hcg2.block p (by omega) (by omega))
  have hb2 : Below w.heap.size w w2 := below_chg hbW hcg2 (fun k hk => by omega)
  clear c0 c1 c2 c3 c4 c5 c6 hput hbx hcW hpkW hbW hcg2 hst
  obtain ⟨c0, c1, c2, c3, c4, c5, c6⟩ := pk_cells hpk2
  rcases hee with rfl | rfl
  · have hrg := boxL_range hbx2
    have hbu := cat_build K M O S z (K + M) (ofs K M O S) k2
    have hst := storeCells_at p o (catL K M O S z (K + M) (ofs K M O S) k2) w2 (by rw [catL_length]; exact hc2.there) (catL_one _ _ _ _ _ _ _ _)
    have hfin := cat_stored hc2 K M O S z (K + M) (ofs K M O S) k2
    have hcf := chg_setCells (Chg.of_below hb2 (fun k => k = p)) (b := p) rfl o (catL K M O S z (K + M) (ofs K M O S) k2)
    have hbl := boxL_length K (K + M) z (ofs K M O S) k2
    have hcl2 := catL_length K M O S z (K + M) (ofs K M O S) k2
    generalize catL K M O S z (K + M) (ofs K M O S) k2 = cc at *
    generalize boxL K (K + M) z (ofs K M O S) k2 = bb at *
    have hii : (Try.prog.info? 63).map (·.size) = some bb.length := by rw [hbl]; exact Try.sizeBox
    have HF := hide (And.intro hfin hcf)
    clear hfin hcf hbx2 hc2
    go_wp2_with (refine wpList_load_mid rfl 63 (.tmp 5) rfl w1.heap.size 0 rfl bb _ hrg Try.underlying63 rfl hii ?_)
    go_ret
    first | exact ⟨rfl, fun _ => HF.out.1, fun h => absurd rfl h, HF.out.2⟩ | exact ⟨rfl, HF.out.1, HF.out.2⟩
  · have hcf := Chg.of_below hb2 (fun k => k = p)
    go_wp2_with fail
    go_ret
    first | exact ⟨rfl, fun h => absurd h (by decide), fun _ => hb2, hcf⟩ | exact ⟨rfl, hb2, hcf⟩

end Go.Proofs.Ytnjaofkieajnlab

/- The program's catcher: Hear whole, and all calls as they are called; Listen. -/
namespace Go.Proofs.Ytnjaofkieajnlab
open Go.RowKit

set_option maxRecDepth 100000 in
set_option maxHeartbeats 4000000 in
theorem ohear_no (c : Value) (t : ByteArray) (w : World) (ht : ¬ PacketOk t) :
    Calls Try.prog 34 #[c, .string t] w fun e w' => e = .returned (.int .i64 6) ∧ Below w.heap.size w w' := by
  have hrd := fun W => pread_no t W ht
  clear ht
  go_enter Try.func34, Try.ntmps34
  go_wp2_with fail
  refine (hrd _).mono ?_
  rintro e w1 ⟨rfl, hb1⟩
  have hbf := hb1.alloc hb1.size (.cells pk0 84)
  go_wp2_with fail
  go_ret
  exact ⟨rfl, hbf⟩

/-- What Hear does with a packet, by what first or next does. -/
theorem ohear_by (tk : Bool) (f : Nat) (hf : f = if tk then 51 else 52) (p o : Nat) (t : ByteArray) (P : Int → World → World → Prop) (n : Int) (w : World) (ht : PacketOk t) (hcell : ∀ w1, Below w.heap.size w w1 → w1.cell? ⟨p, o, none⟩ = some (.bool tk))
    (hdo : ∀ w1, Below w.heap.size w w1 → Calls Try.prog f #[.pointer (some ⟨p, o, none⟩), .agg (pkC (rK t) (rM t) (rO t) (rS t) (rZ t) (rI t) (rQ t))] w1 fun e w' => e = .returned (.int .i64 n) ∧ P n w1 w') :
    Calls Try.prog 34 #[.pointer (some ⟨p, o, none⟩), .string t] w fun e w' => e = .returned (.int .i64 n) ∧ ∃ w1, Below w.heap.size w w1 ∧ P n w1 w' := by
  have hrd := fun W => pread_ok t W ht
  clear ht
  generalize (rK t : Int) = K at *
  generalize (rM t : Int) = M at *
  generalize (rO t : Int) = O at *
  generalize (rS t : Int) = S at *
  generalize (rZ t : Int) = z at *
  generalize (rI t : Int) = i at *
  generalize rQ t = q at *
  cases tk with
  | true =>
    simp only [if_true] at hf
    subst hf
    go_enter Try.func34, Try.ntmps34
    go_wp2_with fail
    refine (hrd _).mono ?_
    rintro e w1 ⟨rfl, hb1⟩
    have hbf := hb1.alloc hb1.size (.cells (pkC K M O S z i q) 84)
    have c0 := hcell _ hbf
    clear hcell hrd
    go_wp2_with fail
    refine (hdo _ hbf).mono ?_
    rintro e w2 ⟨rfl, hP⟩
    clear c0 hdo
    have HE : ∃ w1, Below w.heap.size w w1 ∧ P n w1 w2 := ⟨_, hbf, hP⟩
    clear hbf hP
    go_wp2_with fail
    go_ret
    exact ⟨rfl, HE⟩
  | false =>
    simp only [Bool.false_eq_true, if_false] at hf
    subst hf
    go_enter Try.func34, Try.ntmps34
    go_wp2_with fail
    refine (hrd _).mono ?_
    rintro e w1 ⟨rfl, hb1⟩
    have hbf := hb1.alloc hb1.size (.cells (pkC K M O S z i q) 84)
    have c0 := hcell _ hbf
    clear hcell hrd
    go_wp2_with fail
    refine (hdo _ hbf).mono ?_
    rintro e w2 ⟨rfl, hP⟩
    clear c0 hdo
    have HE : ∃ w1, Below w.heap.size w w1 ∧ P n w1 w2 := ⟨_, hbf, hP⟩
    clear hbf hP
    go_wp2_with fail
    go_ret
    exact ⟨rfl, HE⟩

theorem chg_below {S : Nat → Prop} {w w1 w2 : World} (h : Below w.heap.size w w1) (hc : Chg S w1 w2) : Chg S w w2 := (Chg.of_below h S).trans hc (fun _ _ s => s)

theorem ohear_first (p o Ln : Nat) (tt : TypeId) (hh : Nat → Value) (t : ByteArray) (w : World) (ht : PacketOk t) (hc : CatNone w p o Ln tt hh) :
    Calls Try.prog 34 #[.pointer (some ⟨p, o, none⟩), .string t] w fun e w' => e = .returned (.int .i64 (putE (left kn0 (ofs (rK t) (rM t) (rO t) (rS t) (rI t)) (rQ t)) (rZ t))) ∧ (putE (left kn0 (ofs (rK t) (rM t) (rO t) (rS t) (rI t)) (rQ t)) (rZ t) = 0 → CatHas w' p o Ln tt hh (rK t) (rM t) (rO t) (rS t) (rZ t) (putK kn0 (ofs (rK t) (rM t) (rO t) (rS t) (rI t)) (rQ t))) ∧ (putE (left kn0 (ofs (rK t) (rM t) (rO t) (rS t) (rI t)) (rQ t)) (rZ t) ≠ 0 → Below w.heap.size w w') ∧ Chg (fun k => k = p) w w' := by
  obtain ⟨h1, h2, h3, h4, h5, h6, h7⟩ := ht.has
  refine (ohear_by false _ rfl p o t (fun n w1 w' => (n = 0 → CatHas w' p o Ln tt hh (rK t) (rM t) (rO t) (rS t) (rZ t) (putK kn0 (ofs (rK t) (rM t) (rO t) (rS t) (rI t)) (rQ t))) ∧ (n ≠ 0 → Below w1.heap.size w1 w') ∧ Chg (fun k => k = p) w1 w') (putE (left kn0 (ofs (rK t) (rM t) (rO t) (rS t) (rI t)) (rQ t)) (rZ t)) w ht (fun w1 hb => (hc.on (Nat.le_refl _) hb).head.1) (fun w1 hb => ?_)).mono ?_
  · simpa using pfirst_any p o Ln tt hh (rK t) (rM t) (rO t) (rS t) (rZ t) (rI t) (rQ t) w1 h1 h2 h3 h4 h5 h6 h7 (hc.on (Nat.le_refl _) hb)
  · rintro e w' ⟨he, w1, hb, ha, hb2, hc2⟩
    exact ⟨he, ha, fun h => hb.trans ((hb2 h).mono hb.size), chg_below hb hc2⟩

theorem ohear_other (p o Ln : Nat) (tt : TypeId) (hh : Nat → Value) (K M O S z n : Nat) (of : Nat → Nat) (kn : Kn) (t : ByteArray) (w : World) (ht : PacketOk t) (hc : CatOff w p o Ln tt hh true K M O S z n of kn) (hno : ¬ (rK t = K ∧ rM t = M ∧ rO t = O ∧ rS t = S ∧ rZ t = z)) :
    Calls Try.prog 34 #[.pointer (some ⟨p, o, none⟩), .string t] w fun e w' => e = .returned (.int .i64 7) ∧ Below w.heap.size w w' := by
  refine (ohear_by true _ rfl p o t (fun _ w1 w' => Below w1.heap.size w1 w') 7 w ht (fun w1 hb => (hc.on (Nat.le_refl _) hb).head.1) (fun w1 hb => ?_)).mono ?_
  · simpa using pnext_other p o Ln tt hh K M O S z n of kn (rK t) (rM t) (rO t) (rS t) (rZ t) (rI t) (rQ t) w1 (hc.on (Nat.le_refl _) hb) hno
  · rintro e w' ⟨he, w1, hb, hb2⟩
    exact ⟨he, hb.trans (hb2.mono hb.size)⟩

theorem ohear_put (p o Ln : Nat) (tt : TypeId) (hh : Nat → Value) (kn : Kn) (t : ByteArray) (w : World) (ht : PacketOk t) (hkn : KnOk (rK t) (rZ t) kn) (hc : CatHas w p o Ln tt hh (rK t) (rM t) (rO t) (rS t) (rZ t) kn) :
    Calls Try.prog 34 #[.pointer (some ⟨p, o, none⟩), .string t] w fun e w' => e = .returned (.int .i64 (putE (left kn (ofs (rK t) (rM t) (rO t) (rS t) (rI t)) (rQ t)) (rZ t))) ∧ CatHas w' p o Ln tt hh (rK t) (rM t) (rO t) (rS t) (rZ t) (putK kn (ofs (rK t) (rM t) (rO t) (rS t) (rI t)) (rQ t)) ∧ Chg (fun k => k = p) w w' := by
  obtain ⟨h1, h2, h3, h4, h5, h6, h7⟩ := ht.has
  refine (ohear_by true _ rfl p o t (fun n w1 w' => CatHas w' p o Ln tt hh (rK t) (rM t) (rO t) (rS t) (rZ t) (putK kn (ofs (rK t) (rM t) (rO t) (rS t) (rI t)) (rQ t)) ∧ Chg (fun k => k = p) w1 w') (putE (left kn (ofs (rK t) (rM t) (rO t) (rS t) (rI t)) (rQ t)) (rZ t)) w ht (fun w1 hb => (hc.on (Nat.le_refl _) hb).head.1) (fun w1 hb => ?_)).mono ?_
  · simpa using pnext_put p o Ln tt hh (rK t) (rM t) (rO t) (rS t) (rZ t) kn (rI t) (rQ t) w1 h1.2 h2.2 hkn h5.2 h6 h7 (hc.on (Nat.le_refl _) hb)
  · rintro e w' ⟨he, w1, hb, ha, hc2⟩
    exact ⟨he, ha, chg_below hb hc2⟩

/-- A call of the program's catcher is that of what lies in it. -/
theorem hear_by (p : Nat) (t : ByteArray) (n : Int) (P : World → Prop) (w : World) (h : Calls Try.prog 34 #[.pointer (some ⟨p, 0, none⟩), .string t] w fun e w' => e = .returned (.int .i64 n) ∧ P w') :
    Calls Try.prog 20 #[.pointer (some ⟨p, 0, none⟩), .string t] w fun e w' => e = .returned (.int .i64 n) ∧ P w' := by
  go_enter Try.func20, Try.ntmps20
  go_wp2_with fail
  refine h.mono ?_
  rintro e w1 ⟨rfl, hP⟩
  go_wp2_with fail
  go_ret
  exact ⟨rfl, hP⟩

theorem wants_by (p : Nat) (n : Int) (P : World → Prop) (w : World) (h : Calls Try.prog 36 #[.pointer (some ⟨p, 0, none⟩)] w fun e w' => e = .returned (.int .i64 n) ∧ P w') :
    Calls Try.prog 22 #[.pointer (some ⟨p, 0, none⟩)] w fun e w' => e = .returned (.int .i64 n) ∧ P w' := by
  go_enter Try.func22, Try.ntmps22
  go_wp2_with fail
  refine h.mono ?_
  rintro e w1 ⟨rfl, hP⟩
  go_wp2_with fail
  go_ret
  exact ⟨rfl, hP⟩

theorem object_by (p : Nat) (s : ByteArray) (n : Int) (P : World → Prop) (w : World) (h : Calls Try.prog 35 #[.pointer (some ⟨p, 0, none⟩)] w fun e w' => e = .returned (.tuple #[.string s, .int .i64 n]) ∧ P w') :
    Calls Try.prog 21 #[.pointer (some ⟨p, 0, none⟩)] w fun e w' => e = .returned (.tuple #[.string s, .int .i64 n]) ∧ P w' := by
  go_enter Try.func21, Try.ntmps21
  go_wp2_with fail
  refine h.mono ?_
  rintro e w1 ⟨rfl, hP⟩
  go_wp2_with fail
  go_ret2
  exact ⟨rfl, hP⟩

/-- The cells of a catcher that has heard nothing. -/
def noCatL : List Value := (List.range 89).map (catCell false 0 0 0 0 0 0 (fun _ => 0) kn0)

theorem built_nocat : Try.prog.built 69 [] = some noCatL.toArray := by kernel_rfl

noncomputable def builtRC (parts : Array (Nat × Value)) : Sem Value := Instr.build 69 parts

theorem build_maskRC (parts : Array (Nat × Value)) : Instr.build 69 parts = builtRC parts := rfl

theorem newCat_at (w : World) : CatNone (w.alloc (.cells noCatL.toArray 69)) w.heap.size 0 89 69 (fun _ => undef) := by
  refine ⟨Nat.le_refl _, _, heap_alloc_new w _, by simp [noCatL], fun i hi => ?_⟩
  unfold noCatL inCat
  rw [if_neg (by omega), if_pos (by omega), Nat.sub_zero, List.getElem?_toArray, List.getElem?_map, List.getElem?_range hi]; rfl

attribute [local go_sem ↓] build_maskRC

set_option maxRecDepth 100000 in
set_option maxHeartbeats 4000000 in
theorem listen_any (w : World) :
    Calls Try.prog 19 #[] w fun e w' => ∃ p, e = .returned (.pointer (some ⟨p, 0, none⟩)) ∧ CatNone w' p 0 89 69 (fun _ => undef) ∧ w.heap.size ≤ p ∧ Below w.heap.size w w' := by
  have hb : ∀ w, (builtRC #[]).run Try.prog w = .ok (.agg noCatL.toArray) w := fun w => run_build (P := Try.prog) w 69 #[] _ built_nocat
  have hat := newCat_at w
  generalize noCatL = cs at *
  go_enter Try.func19, Try.ntmps19
  go_wp2_with fail
  go_ret
  exact ⟨_, rfl, hat, Nat.le_refl _, (Below.refl _ _).alloc (Nat.le_refl _) _⟩

end Go.Proofs.Ytnjaofkieajnlab

/- The document's own Hear: a first packet of which all is told. -/
namespace Go.Proofs.Ytnjaofkieajnlab
open Go.RowKit

end Go.Proofs.Ytnjaofkieajnlab

/- The document's own Hear: further packets. -/
namespace Go.Proofs.Ytnjaofkieajnlab
open Go.RowKit

end Go.Proofs.Ytnjaofkieajnlab

/- The document's own Hear: further packets of which all is told. -/
namespace Go.Proofs.Ytnjaofkieajnlab
open Go.RowKit

end Go.Proofs.Ytnjaofkieajnlab

/- The document's own Hear: packets of another object. -/
namespace Go.Proofs.Ytnjaofkieajnlab
open Go.RowKit

end Go.Proofs.Ytnjaofkieajnlab

/- A catcher as plain mathematics: what it has taken, and what it answers; the program's catcher and the document's both go by it. -/
namespace Go.Proofs.Ytnjaofkieajnlab
open Go.RowKit

/-- What a catcher has taken. -/
structure CS where
  tk : Bool
  K : Nat
  M : Nat
  O : Nat
  S : Nat
  z : Nat
  kn : Kn
  ps : List (Nat × ByteArray)

def CS.zero : CS := ⟨false, 0, 0, 0, 0, 0, kn0, []⟩

structure CSok (s : CS) : Prop where
  spec : s.tk = true → SpecOk s.K s.M s.O s.S s.z
  rel : s.tk = true → Rel s.K s.M s.O s.S s.z s.kn s.ps
  cnt : s.tk = true → s.ps.length + openK s.kn s.K = s.K
  none : s.tk = false → s = CS.zero

theorem CSok.new : CSok CS.zero := ⟨fun h => (by cases h), fun h => (by cases h), fun h => (by cases h), fun _ => rfl⟩

def packetB (p : ByteArray) : Bool := decide (10 ≤ p.size ∧ p.size ≤ 25 ∧ byteAt p 0 = 82 ∧ mayB (rK p) (rM p) (rO p) (rS p) = true ∧ rI p < rK p + rM p ∧ p.size = rZ p + 9 ∧ addTo p p.size = 0)

theorem packetB_iff (p : ByteArray) : packetB p = true ↔ PacketOk p := decide_eq_true_iff

def sameB (s : CS) (t : ByteArray) : Bool := decide (rK t = s.K ∧ rM t = s.M ∧ rO t = s.O ∧ rS t = s.S ∧ rZ t = s.z)

theorem sameB_iff (s : CS) (t : ByteArray) : sameB s t = true ↔ (rK t = s.K ∧ rM t = s.M ∧ rO t = s.O ∧ rS t = s.S ∧ rZ t = s.z) := decide_eq_true_iff

/-- What is left of a packet's piece. -/
def hearL (s : CS) (t : ByteArray) : Fct := left s.kn (ofs (rK t) (rM t) (rO t) (rS t) (rI t)) (rQ t)

/-- What Hear answers. -/
def hearE (s : CS) (t : ByteArray) : Int := if packetB t = false then 6 else if s.tk = true ∧ sameB s t = false then 7 else putE (hearL s t) (rZ t)

/-- What a catcher has taken behind it. -/
def hearS (s : CS) (t : ByteArray) : CS := if hearE s t = 0 then ⟨true, rK t, rM t, rO t, rS t, rZ t, putK s.kn (ofs (rK t) (rM t) (rO t) (rS t) (rI t)) (rQ t), if (hearL s t).1 = 0 then s.ps else s.ps ++ [(rI t, rQ t)]⟩ else s

/-- What is told of a piece of data. -/
def csG (s : CS) (i : Nat) : ByteArray × Bool := ((left s.kn (ofs s.K s.M s.O s.S i) (zeroB s.z)).2, decide ((left s.kn (ofs s.K s.M s.O s.S i) (zeroB s.z)).1 = 0))

def csAll (s : CS) : Bool := (List.range s.K).all (fun j => (csG s j).2)

theorem csAll_iff (s : CS) : csAll s = true ↔ ∀ j, j < s.K → (csG s j).2 = true := by
  unfold csAll
  rw [List.all_eq_true]
  exact ⟨fun h j hj => h j (List.mem_range.2 hj), fun h j hj => h j (List.mem_range.1 hj)⟩

/-- What Object answers. -/
def objE (s : CS) : ByteArray × Int := if s.tk = true ∧ csAll s = true then (if objOk (joinTo (csG s) s.K) = true then (objText (joinTo (csG s) s.K), 0) else (⟨#[]⟩, 8)) else (⟨#[]⟩, 5)

/-- What Wants answers. -/
def wantE (s : CS) : Int := if s.tk = true then (openK s.kn s.K : Int) else -1

theorem hearE_no {s : CS} {t : ByteArray} (h : ¬ PacketOk t) : hearE s t = 6 ∧ hearS s t = s := by
  have hb : packetB t = false := by
    cases hp : packetB t with
    | false => rfl
    | true => exact absurd ((packetB_iff t).1 hp) h
  have he : hearE s t = 6 := by unfold hearE; rw [if_pos hb]
  exact ⟨he, by unfold hearS; rw [he, if_neg (by decide)]⟩

theorem hearE_other {s : CS} {t : ByteArray} (h : PacketOk t) (hk : s.tk = true) (hs : ¬ (rK t = s.K ∧ rM t = s.M ∧ rO t = s.O ∧ rS t = s.S ∧ rZ t = s.z)) : hearE s t = 7 ∧ hearS s t = s := by
  have hb : sameB s t = false := by
    cases hp : sameB s t with
    | false => rfl
    | true => exact absurd ((sameB_iff s t).1 hp) hs
  have he : hearE s t = 7 := by unfold hearE; rw [if_neg (by rw [(packetB_iff t).2 h]; simp), if_pos ⟨hk, hb⟩]
  exact ⟨he, by unfold hearS; rw [he, if_neg (by decide)]⟩

theorem hearE_put {s : CS} {t : ByteArray} (h : PacketOk t) (hs : s.tk = true → (rK t = s.K ∧ rM t = s.M ∧ rO t = s.O ∧ rS t = s.S ∧ rZ t = s.z)) : hearE s t = putE (hearL s t) (rZ t) := by
  unfold hearE
  rw [if_neg (by rw [(packetB_iff t).2 h]; simp), if_neg (fun ⟨a, b⟩ => by rw [(sameB_iff s t).2 (hs a)] at b; cases b)]

theorem putE_cases (L : Fct) (z : Nat) : (putE L z = 0 ∧ ¬ (L.1 = 0 ∧ L.2 ≠ zeroB z)) ∨ (putE L z = 4 ∧ L.1 = 0 ∧ L.2 ≠ zeroB z) := by
  unfold putE
  by_cases h : L.1 = 0 ∧ L.2 ≠ zeroB z
  · rw [if_pos h]; exact Or.inr ⟨rfl, h⟩
  · rw [if_neg h]; exact Or.inl ⟨rfl, h⟩

/-- What it has taken, whatever the packet's specification where nothing was taken. -/
theorem CSok.base {s : CS} (h : CSok s) {t : ByteArray} (hs : s.tk = true → (rK t = s.K ∧ rM t = s.M ∧ rO t = s.O ∧ rS t = s.S ∧ rZ t = s.z)) : Rel (rK t) (rM t) (rO t) (rS t) (rZ t) s.kn s.ps ∧ s.ps.length + openK s.kn (rK t) = rK t := by
  cases hk : s.tk with
  | true =>
    obtain ⟨e1, e2, e3, e4, e5⟩ := hs hk
    rw [e1, e2, e3, e4, e5]
    exact ⟨h.rel hk, h.cnt hk⟩
  | false =>
    rw [h.none hk]
    exact ⟨Rel.new _ _ _ _ _, by show 0 + openK kn0 (rK t) = rK t; rw [openK_kn0, Nat.zero_add]⟩

theorem putK_same {kn : Kn} {x : Nat} {p : ByteArray} (h : (left kn x p).1 = 0) : putK kn x p = kn := by unfold putK; rw [if_pos h]

theorem CSok.hear {s : CS} (h : CSok s) (t : ByteArray) : CSok (hearS s t) := by
  by_cases hp : PacketOk t
  · by_cases hs : s.tk = true → (rK t = s.K ∧ rM t = s.M ∧ rO t = s.O ∧ rS t = s.S ∧ rZ t = s.z)
    · obtain ⟨h1, h2, h3, h4, h5, h6, h7⟩ := hp.has
      have he := hearE_put hp hs
      obtain ⟨hr, hc⟩ := h.base hs
      unfold hearS
      rcases putE_cases (hearL s t) (rZ t) with ⟨h0, hn⟩ | ⟨h0, _⟩
      · rw [he, h0, if_pos rfl]
        by_cases hl : (hearL s t).1 = 0
        · rw [if_pos hl, putK_same hl]
          exact ⟨fun _ => ⟨h1, h2, h3, h4, h5⟩, fun _ => hr, fun _ => hc, fun e => by cases e⟩
        · rw [if_neg hl]
          refine ⟨fun _ => ⟨h1, h2, h3, h4, h5⟩, fun _ => hr.push h1.2 h6 h7 hl, fun _ => ?_, fun e => by cases e⟩
          have := openK_put hr.ok h1.2 h7 (ofs_lt (rK t) (rM t) (rO t) (rS t) (rI t)) hl
          show (s.ps ++ [(rI t, rQ t)]).length + openK (putK s.kn (ofs (rK t) (rM t) (rO t) (rS t) (rI t)) (rQ t)) (rK t) = rK t
          rw [List.length_append]
          simp
          omega
      · rw [he, h0, if_neg (by decide)]; exact h
    · have hk : s.tk = true := Classical.byContradiction (fun hk => hs (fun e => absurd e hk))
      rw [(hearE_other hp hk (fun e => hs (fun _ => e))).2]; exact h
  · rw [(hearE_no hp).2]; exact h

theorem ofs_zero : ofs 0 0 0 0 = fun _ => 0 := funext fun j => ofTo_above 0 0 0 0 0 j (by omega)

/-- The program's catcher goes by it. -/
def ProgCat (w : World) (p o Ln : Nat) (tt : TypeId) (hh : Nat → Value) (s : CS) : Prop := CatOff w p o Ln tt hh s.tk s.K s.M s.O s.S s.z (s.K + s.M) (ofs s.K s.M s.O s.S) s.kn

theorem ProgCat.zero (w : World) (p o Ln : Nat) (tt : TypeId) (hh : Nat → Value) : ProgCat w p o Ln tt hh CS.zero = CatNone w p o Ln tt hh := by
  show CatOff w p o Ln tt hh false 0 0 0 0 0 (0 + 0) (ofs 0 0 0 0) kn0 = _
  rw [ofs_zero]

theorem ProgCat.has {w : World} {p o Ln : Nat} {tt : TypeId} {hh : Nat → Value} {s : CS} (h : ProgCat w p o Ln tt hh s) (hk : s.tk = true) : CatHas w p o Ln tt hh s.K s.M s.O s.S s.z s.kn := by
  unfold ProgCat at h
  rwa [hk] at h

theorem ohear_any (p o Ln : Nat) (tt : TypeId) (hh : Nat → Value) (s : CS) (t : ByteArray) (w : World) (hc : ProgCat w p o Ln tt hh s) (hs : CSok s) :
    Calls Try.prog 34 #[.pointer (some ⟨p, o, none⟩), .string t] w fun e w' => e = .returned (.int .i64 (hearE s t)) ∧ ProgCat w' p o Ln tt hh (hearS s t) ∧ Chg (fun k => k = p) w w' := by
  by_cases hp : PacketOk t
  · obtain ⟨h1, h2, h3, h4, h5, h6, h7⟩ := hp.has
    cases hk : s.tk with
    | false =>
      have hz := hs.none hk
      subst hz
      have he : hearE CS.zero t = putE (left kn0 (ofs (rK t) (rM t) (rO t) (rS t) (rI t)) (rQ t)) (rZ t) := hearE_put hp (fun e => by cases e)
      rw [ProgCat.zero] at hc
      refine (ohear_first p o Ln tt hh t w hp hc).mono fun e w' ⟨ha, hb, hb2, hcg⟩ => ⟨by rw [he]; exact ha, ?_, hcg⟩
      unfold hearS
      by_cases h0 : hearE CS.zero t = 0
      · rw [if_pos h0]; exact hb (by rw [← he]; exact h0)
      · rw [if_neg h0, ProgCat.zero]; exact hc.on (Nat.le_refl _) (hb2 (by rw [← he]; exact h0))
    | true =>
      have hc2 := hc.has hk
      by_cases hsm : rK t = s.K ∧ rM t = s.M ∧ rO t = s.O ∧ rS t = s.S ∧ rZ t = s.z
      · have he : hearE s t = putE (left s.kn (ofs (rK t) (rM t) (rO t) (rS t) (rI t)) (rQ t)) (rZ t) := hearE_put hp (fun _ => hsm)
        obtain ⟨e1, e2, e3, e4, e5⟩ := hsm
        have hr := (hs.rel hk).ok
        rw [← e1, ← e2, ← e3, ← e4, ← e5] at hc2
        rw [← e1, ← e5] at hr
        refine (ohear_put p o Ln tt hh s.kn t w hp hr hc2).mono fun e w' ⟨ha, hb, hcg⟩ => ⟨by rw [he]; exact ha, ?_, hcg⟩
        unfold hearS
        rcases putE_cases (hearL s t) (rZ t) with ⟨h0, _⟩ | ⟨h0, hl, _⟩
        · rw [if_pos (by rw [he]; exact h0)]; exact hb
        · rw [if_neg (by rw [he]; intro e; rw [show putE (left s.kn (ofs (rK t) (rM t) (rO t) (rS t) (rI t)) (rQ t)) (rZ t) = 4 from h0] at e; cases e)]
          rw [putK_same hl, e1, e2, e3, e4, e5] at hb
          unfold ProgCat
          rw [hk]
          exact hb
      · obtain ⟨he, hst⟩ := hearE_other hp hk hsm
        rw [he, hst]
        have hc3 := hc2
        exact (ohear_other p o Ln tt hh s.K s.M s.O s.S s.z (s.K + s.M) (ofs s.K s.M s.O s.S) s.kn t w hp hc2 hsm).mono fun e w' ⟨ha, hb⟩ => ⟨ha, CatOff.on hc (Nat.le_refl _) hb, Chg.of_below hb _⟩
  · obtain ⟨he, hst⟩ := hearE_no (s := s) hp
    rw [he, hst]
    exact (ohear_no _ t w hp).mono fun e w' ⟨ha, hb⟩ => ⟨ha, CatOff.on hc (Nat.le_refl _) hb, Chg.of_below hb _⟩

theorem owants_any (p o Ln : Nat) (tt : TypeId) (hh : Nat → Value) (s : CS) (w : World) (hc : ProgCat w p o Ln tt hh s) (hs : CSok s) :
    Calls Try.prog 36 #[.pointer (some ⟨p, o, none⟩)] w fun e w' => e = .returned (.int .i64 (wantE s)) ∧ w' = w := by
  unfold wantE
  cases hk : s.tk with
  | false =>
    have hz := hs.none hk
    subst hz
    rw [ProgCat.zero] at hc
    exact pwants_none p o Ln tt hh w hc
  | true =>
    exact pwants_has p o Ln tt hh s.K s.M s.O s.S s.z s.kn w (hs.spec hk).hK.2 (hc.has hk)

theorem csG_size {s : CS} (hs : CSok s) (hk : s.tk = true) (i : Nat) : (csG s i).1.size = s.z := (left_ok (hs.rel hk).ok (ofs s.K s.M s.O s.S i) (zeroB s.z) (zeroB_size s.z)).size

theorem oobj_any (p o Ln : Nat) (tt : TypeId) (hh : Nat → Value) (s : CS) (w : World) (hc : ProgCat w p o Ln tt hh s) (hs : CSok s) :
    Calls Try.prog 35 #[.pointer (some ⟨p, o, none⟩)] w fun e w' => e = .returned (.tuple #[.string (objE s).1, .int .i64 (objE s).2]) ∧ Below w.heap.size w w' := by
  unfold objE
  cases hk : s.tk with
  | false =>
    have hz := hs.none hk
    subst hz
    rw [ProgCat.zero] at hc
    rw [if_neg (by simp)]
    exact (pobj_none p o Ln tt hh w hc).mono fun e w' ⟨h1, h2⟩ => ⟨h1, by rw [h2]; exact Below.refl _ _⟩
  | true =>
    have sp := hs.spec hk
    refine (pobj_has p o Ln tt hh s.K s.M s.O s.S s.z s.kn (csG s) (joinTo (csG s) s.K) w sp.hK sp.hM.2 (hs.rel hk).ok sp.hz (hc.has hk) (fun i _ => decide_eq_true_iff) (fun _ _ => rfl) (csG_size hs hk) rfl).mono fun e w' ⟨⟨h1, h2, h3⟩, hb⟩ => ⟨?_, hb⟩
    by_cases ha : csAll s = true
    · rw [if_pos ⟨rfl, ha⟩]
      cases ho : objOk (joinTo (csG s) s.K) with
      | true => rw [if_pos rfl]; exact h1 ((csAll_iff s).1 ha) ho
      | false => rw [if_neg (by simp)]; exact h2 ((csAll_iff s).1 ha) ho
    · rw [if_neg (fun h => ha h.2)]
      exact h3 (fun h => ha ((csAll_iff s).2 h))

/-- Its blocks. -/
def fpD (r b : Nat) (av pv : Value) (s : CS) (k : Nat) : Prop := k = r ∨ (s.tk = true ∧ fpR b av pv k)

theorem joinTo_congr (F G : Nat → ByteArray × Bool) (n : Nat) (h : ∀ i, i < n → (F i).1 = (G i).1) : joinTo F n = joinTo G n := by
  induction n with
  | zero => rfl
  | succ n ih =>
    show joinTo F n ++ (F n).1 = joinTo G n ++ (G n).1
    rw [ih (fun i hi => h i (by omega)), h n (by omega)]

end Go.Proofs.Ytnjaofkieajnlab

/- Packets of a word's pieces, and an object's word: plain facts. -/
namespace Go.Proofs.Ytnjaofkieajnlab

theorem packB_size (K M O S z i : Nat) (q : ByteArray) : (packB K M O S z i q).size = 9 + q.size := by
  unfold packB
  rw [ByteArray.size_append, packT_size]
  show 8 + q.size + 1 = _
  omega

theorem cutTo_getD (t : ByteArray) (z n j : Nat) (h : j < n) : (cutTo t z n).getD j ByteArray.empty = t.extract (j * z) (j * z + z) := by
  induction n with
  | zero => omega
  | succ n ih =>
    show (cutTo t z n ++ [t.extract (n * z) (n * z + z)]).getD j ByteArray.empty = _
    rw [List.getD_eq_getElem?_getD]
    by_cases e : j < n
    · rw [List.getElem?_append_left (by rw [cutTo_length]; exact e), ← List.getD_eq_getElem?_getD]; exact ih e
    · have : j = n := by omega
      subst this
      rw [List.getElem?_append_right (by rw [cutTo_length]; exact Nat.le_refl _), cutTo_length, Nat.sub_self]; rfl

theorem knownTo_getD (data : List ByteArray) (rows : Nat → List Nat) (z n j : Nat) (h : j < data.length) : (knownTo data rows z n).getD j ByteArray.empty = data.getD j ByteArray.empty := by
  induction n with
  | zero => rfl
  | succ n ih =>
    show (knownTo data rows z n ++ [_]).getD j ByteArray.empty = _
    rw [List.getD_eq_getElem?_getD, List.getElem?_append_left (by rw [knownTo_length]; omega), ← List.getD_eq_getElem?_getD]; exact ih

theorem packTo_getD (K M O S z : Nat) (P : List ByteArray) (n j : Nat) (h : j < n) : (packTo K M O S z P n).getD j ByteArray.empty = packB K M O S z j (P.getD j ByteArray.empty) := by
  induction n with
  | zero => omega
  | succ n ih =>
    show (packTo K M O S z P n ++ [packB K M O S z n (P.getD n ByteArray.empty)]).getD j ByteArray.empty = _
    rw [List.getD_eq_getElem?_getD]
    by_cases e : j < n
    · rw [List.getElem?_append_left (by rw [packTo_length]; exact e), ← List.getD_eq_getElem?_getD]; exact ih e
    · have : j = n := by omega
      subst this
      rw [List.getElem?_append_right (by rw [packTo_length]; exact Nat.le_refl _), packTo_length, Nat.sub_self]; rfl

theorem objWord_is {K M O S z : Nat} (o : ByteArray) (h : o.size + 2 ≤ K * z) : IsWord K M O S z (objWord K M O S z o) := by
  have hs := objT_size (K * z) o h
  have hc := cutTo_size (objT (K * z) o) z K (by rw [hs]; exact Nat.le_refl _)
  exact ⟨by unfold objWord; rw [knownTo_length, cutTo_length], knownTo_size hc M, fun i hi => known_fits K M O S _ z hc (cutTo_length _ _ _) i hi⟩

theorem objWord_data {K M O S z : Nat} (o : ByteArray) {j : Nat} (hj : j < K) : (objWord K M O S z o).getD j ByteArray.empty = (objT (K * z) o).extract (j * z) (j * z + z) := by
  unfold objWord
  rw [knownTo_getD _ _ _ _ _ (by rw [cutTo_length]; exact hj), cutTo_getD _ _ _ _ hj]

theorem packTo_sizes {K M O S z : Nat} {o : ByteArray} (h : o.size + 2 ≤ K * z) {i : Nat} (hi : i < K + M) : ((packTo K M O S z (objWord K M O S z o) (K + M)).getD i ByteArray.empty).size = 9 + z := by
  rw [packTo_getD _ _ _ _ _ _ _ _ hi, packB_size, (objWord_is o h).at_size hi]

end Go.Proofs.Ytnjaofkieajnlab
