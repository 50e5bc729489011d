/- Texts of the proof, part 36. -/
import Derived.Test.YtnjaofkieajnlaaGreatAlluptoG11
import Derived.Test.YtnjaofkieajnlaaGreatAlluptoG14
import Derived.Test.YtnjaofkieajnlaaGreatAlluptoG20
import Derived.Test.YtnjaofkieajnlaaGreatAlluptoG27
import Derived.Test.YtnjaofkieajnlaaGreatAlluptoG29
import Derived.Test.YtnjaofkieajnlaaGreatAlluptoG33
import Derived.Test.YtnjaofkieajnlaaGreatAlluptoG34

/- The statement's own 'taken': Take, Whole and Lacks of a pair of inboxes. -/
namespace Go.Proofs.YtnjaofkieajnlaaGreat
open Go.RowKit

/-- A pair of inboxes. -/
structure PI where
  x : Nat
  r : Nat
  hv : Value
  l : List PD
  s : IS

structure InbPair (w : World) (x : PI) : Prop where
  prog : ProgInb w x.x 96 x.s
  doc : DocInbox w x.r x.hv x.l x.s
  ok : ISok x.s

/-- The blocks of a pair. -/
def PI.fp (x : PI) (k : Nat) : Prop := k = x.x ∨ fpI x.r x.hv x.l x.s k

/-- The blocks of the document's inbox are of six types. -/
theorem DocInbox.types {w : World} {x : Nat} {hv : Value} {l : List PD} {s : IS} (h : DocInbox w x hv l s) {k : Nat} (hk : fpI x hv l s k) : ∃ cs t, w.heap[k]? = some (.cells cs t (0, 0)) ∧ (t = 55 ∨ t = 44 ∨ t = 47 ∨ t = 70 ∨ t = 3 ∨ t = 9) := by
  rcases hk with rfl | hk | ⟨i, hi, hk⟩
  · exact ⟨_, _, h.box, Or.inl rfl⟩
  · obtain ⟨c, hc⟩ := owns_block h.parts.own hk
    exact ⟨c, _, hc, Or.inr (Or.inl rfl)⟩
  · obtain ⟨c, t, hc, ht⟩ := (h.parts.each i hi).types hk
    exact ⟨c, t, hc, Or.inr (Or.inr ht)⟩

theorem InbPair.parted {w : World} {x : PI} (h : InbPair w x) {k : Nat} (hk : fpI x.r x.hv x.l x.s k) : k ≠ x.x := by
  rintro rfl
  obtain ⟨cs, t, hc, ht⟩ := h.doc.types hk
  obtain ⟨c', hc', _⟩ := h.prog
  rw [hc'] at hc
  simp at hc
  obtain ⟨_, rfl⟩ := hc
  rcases ht with ht | ht | ht | ht | ht | ht <;> exact absurd ht (by decide)

def inbK : Kind PI where
  no := ⟨0, 0, .slice none 0 0, [], IS.zero⟩
  p := PI.x
  r := PI.r
  fp := PI.fp
  lies := InbPair
  lt := fun h hk => by
    rcases hk with rfl | hk
    · exact InbAt.lt h.prog
    · exact h.doc.lt hk
  blocks := fun h hb => ⟨InbAt.block h.prog (hb _ (Or.inl rfl)), h.doc.blocks (fun k hk => hb k (Or.inr hk)), h.ok⟩

theorem wholeE_form (s : IS) : ∃ x n, wholeE s = (x, n) := ⟨_, _, rfl⟩

set_option maxRecDepth 100000 in
set_option maxHeartbeats 8000000 in
theorem taken_any (wb : Nat) (csv : Value) (cl : List PI) (k a b c K M O S : Int) (s : ByteArray) (lv : Value) (w : World) (hcb0 : w.cell? ⟨wb, 8, none⟩ = some csv) (hwl : wb < w.heap.size) (hat : PairsAt inbK w 57 csv cl) (ha1 : -9223372036854775808 ≤ a) (ha2 : a ≤ 9223372036854775807) (hk : k = 10 ∨ k = 11 ∨ k = 12) :
    Calls Tryz.prog 16 #[.pointer (some ⟨wb, 0, none⟩), .agg (opC k a b c K M O S s lv)] w fun e w' => e = .returned (.bool true) ∧ ∃ cl', PairsAt inbK w' 57 csv cl' ∧ cl'.length = cl.length ∧ Chg (pfp inbK csv cl) w w' ∧ (∀ k, pfp inbK csv cl' k → pfp inbK csv cl k ∨ w.heap.size ≤ k) := by
  have hbA := (Below.refl w.heap.size w).alloc (Nat.le_refl _) (.cells (opC k a b c K M O S s lv) 29)
  have hat1 := hat.on hbA
  have hop : (w.alloc (.cells (opC k a b c K M O S s lv) 29)).heap[w.heap.size]? = some (.cells (opC k a b c K M O S s lv) 29 (0, 0)) := heap_alloc_new w _
  have hcb : (w.alloc (.cells (opC k a b c K M O S s lv) 29)).cell? ⟨wb, 8, none⟩ = some csv := (hbA.cell (p := ⟨wb, 8, none⟩) hwl).trans hcb0
  have hsame : ∀ w', Below w.heap.size w w' → ∃ cl', PairsAt inbK w' 57 csv cl' ∧ cl'.length = cl.length ∧ Chg (pfp inbK csv cl) w w' ∧ (∀ k, pfp inbK csv cl' k → pfp inbK csv cl k ∨ w.heap.size ≤ k) := fun w' h => ⟨cl, hat.on h, rfl, Chg.of_below h _, fun k hk => Or.inl hk⟩
  have HS := hide hsame
  clear hsame
  by_cases hl0 : cl.length = 0
  · obtain ⟨ao, cap, rfl⟩ := hat.shape0 hl0
    have hend := HS.out _ hbA
    clear HS
    go_enter Tryz.func16, Tryz.ntmps16
    go_wp2_with fail
    go_ret
    exact ⟨rfl, hend⟩
  · have hjl := placeOf_lt cl.length a (by omega)
    have hjp := pick_place' a cl.length (by omega)
    generalize placeOf cl.length a = j at *
    obtain ⟨g, cap, rfl, hg, p0, p1⟩ := hat.cells hjl
    have hpk := fun W => lpick_any a (cl.length : Int) W ha1 ha2 (by omega)
    rw [hjp] at hpk
    clear hjp
    have q0 := (hbA.cell (p := ⟨g, j * 2, none⟩) hg).trans p0
    have q1 := (hbA.cell (p := ⟨g, j * 2 + 1, none⟩) hg).trans p1
    obtain ⟨c0, c1, c2, c4, c5, c6, c7, c8⟩ := op_cells hop
    have i1 : (0 : Int) ≤ (j : Int) := by omega
    have i2 : (j : Int) < (cl.length : Int) := by omega
    have hbn : ((cl.length : Int) == 0) = false := beq_eq_false_iff_ne.2 (by omega)
    generalize hpp : inbK.p (cl.getD j inbK.no) = p at *
    generalize hrr : inbK.r (cl.getD j inbK.no) = r at *
    go_enter Tryz.func16, Tryz.ntmps16
    go_upto_region 3 with fail
    generalize hW : w.alloc (.cells (opC k a b c K M O S s lv) 29) = W at *
    have hWs : W.heap.size = w.heap.size + 1 := by rw [← hW]; simp
    go_cut [5] (fun s5 wc => ∃ x, s5 = .pointer (some ⟨x, 0, none⟩) ∧ wc.heap[x]? = some (.cells #[.pointer (some ⟨p, 0, none⟩), .pointer (some ⟨r, 0, none⟩)] 57 (0, 0)) ∧ W.heap.size ≤ x ∧ Below W.heap.size W wc)
    case first =>
      have hbf := ((Below.refl W.heap.size W).alloc (Nat.le_refl _) (.cells #[.pointer (some ⟨p, 0, none⟩), .pointer (some ⟨r, 0, none⟩)] 57)).drew
      have hnw := heap_alloc_new W (.cells #[.pointer (some ⟨p, 0, none⟩), .pointer (some ⟨r, 0, none⟩)] 57)
      have hgW : g < W.heap.size := by omega
      have hwW : wb < W.heap.size := by omega
      have hoW : w.heap.size < W.heap.size := by omega
      clear hat hat1 hop hcb0 p0 p1 c0 c2 c4 c5 c6 c7 c8 hbA HS
      go_region_held3 (fun w' => w'.cell? ⟨wb, 8, none⟩ = some (.slice (some ⟨g, 0, none⟩) cl.length cap) ∧ w'.cell? ⟨w.heap.size, 1, none⟩ = some (.int .i64 a) ∧ w'.cell? ⟨g, j * 2, none⟩ = some (.pointer (some ⟨p, 0, none⟩)) ∧ w'.cell? ⟨g, j * 2 + 1, none⟩ = some (.pointer (some ⟨r, 0, none⟩)))
        (first | (exact ⟨hcb, c1, q0, q1⟩) | go_keep)
        (first
          | (go_at_call 25; refine (hpk _).mono ?_; rintro e w2 ⟨rfl, h2⟩; obtain rfl := h2.symm))
      all_goals
        go_wp2_with fail
        go_meet
        case rel => exact ⟨w.heap.size + 1, rfl, by rw [← hWs]; exact hnw, by omega, hbf⟩
    case rest =>
      obtain ⟨x, rfl, hx, hxl, hbc⟩ := hcut
      have hbwc : Below w.heap.size w wc := hbA.trans (hbc.mono (by omega))
      have hatc := hat.on hbwc
      have hopc := block_on hop hbc
      have hpr := hatc.each j hjl
      have hupd : ∀ w' B', Chg (inbK.fp (cl.getD j inbK.no)) wc w' → InbPair w' B' → B'.x = (cl.getD j inbK.no).x → B'.r = (cl.getD j inbK.no).r → (∀ k, B'.fp k → (cl.getD j inbK.no).fp k ∨ wc.heap.size ≤ k) → ∃ cl', PairsAt inbK w' 57 (.slice (some ⟨g, 0, none⟩) cl.length cap) cl' ∧ cl'.length = cl.length ∧ Chg (pfp inbK (.slice (some ⟨g, 0, none⟩) cl.length cap) cl) w w' ∧ (∀ k, pfp inbK (.slice (some ⟨g, 0, none⟩) cl.length cap) cl' k → pfp inbK (.slice (some ⟨g, 0, none⟩) cl.length cap) cl k ∨ w.heap.size ≤ k) :=
        fun w' B' h1 h2 h3 h4 h5 => by
          obtain ⟨u1, u2, u3⟩ := hatc.update hjl (b := B') h1 h2 h3 h4 h5
          refine ⟨cl.set j B', u1, by simp, chg_below hbwc u2, fun k hk => ?_⟩
          rcases u3 k hk with h | h
          · exact Or.inl h
          · right; have := hbwc.size; omega
      have hold : ∀ w', Below wc.heap.size wc w' → ∃ cl', PairsAt inbK w' 57 (.slice (some ⟨g, 0, none⟩) cl.length cap) cl' ∧ cl'.length = cl.length ∧ Chg (pfp inbK (.slice (some ⟨g, 0, none⟩) cl.length cap) cl) w w' ∧ (∀ k, pfp inbK (.slice (some ⟨g, 0, none⟩) cl.length cap) cl' k → pfp inbK (.slice (some ⟨g, 0, none⟩) cl.length cap) cl k ∨ w.heap.size ≤ k) := fun w' h => HS.out w' (hbwc.trans (h.mono hbwc.size))
      have hpp2 : (cl.getD j inbK.no).x = p := hpp
      have hrr2 : (cl.getD j inbK.no).r = r := hrr
      have hpr2 : InbPair wc (cl.getD j inbK.no) := hpr
      have hfpe : inbK.fp (cl.getD j inbK.no) = (cl.getD j inbK.no).fp := rfl
      rw [hfpe] at hupd
      clear hpr hfpe hpp hrr
      subst hpp2 hrr2
      clear hat hat1 hop hcb hcb0 p0 p1 q0 q1 c0 c1 c2 c4 c5 c6 c7 c8 hpk hbc hatc HS hbA hbwc
      generalize cl.getD j inbK.no = B at *
      obtain ⟨hx0, hx1⟩ := two_cells hx
      obtain ⟨c0, c1, c2, c4, c5, c6, c7, c8⟩ := op_cells hopc
      have hcl := InbAt.lt hpr2.prog
      have hHO := hide hold
      have hHU := hide hupd
      have hxp : x ≠ B.x := by
        rintro rfl
        obtain ⟨cs, hcs, _⟩ := hpr2.prog
        rw [hx] at hcs
        simp at hcs
      have hopp : w.heap.size ≠ B.x := by
        intro e
        obtain ⟨cs, hcs, _⟩ := hpr2.prog
        rw [← e, hopc] at hcs
        simp at hcs
      have hxlt : x < wc.heap.size := (Array.getElem?_eq_some_iff.1 hx).1
      have holt : w.heap.size < wc.heap.size := (Array.getElem?_eq_some_iff.1 hopc).1
      clear hold hupd c1 c2 c4 c5 c6 c7
      rcases hk with rfl | rfl | rfl
      · have hhr := take_by B.x s _ _ wc (otake_any B.x 96 B.s s wc hpr2.prog hpr2.ok)
        have hdc := fun W h => rtake_any B.r B.hv B.l B.s s W h hpr2.ok
        have hok2 := hpr2.ok.take s
        generalize takeE B.s s = ee at *
        generalize takeS B.s s = s2 at *
        go_wp2_with fail
        refine hhr.mono ?_
        rintro e w1 ⟨rfl, hpc1, hcg⟩
        have hdoc1 := hpr2.doc.blocks (w' := w1) (fun k hk => hcg.block k (hpr2.doc.lt hk) (fun e => hpr2.parted hk e))
        have hx' := (hcg.block x hxlt hxp).trans hx
        have hop' := (hcg.block _ holt hopp).trans hopc
        obtain ⟨y0, y1⟩ := two_cells hx'
        clear hx0 hx1 c0 c8 hhr
        obtain ⟨c0, c1, c2, c4, c5, c6, c7, c8⟩ := op_cells hop'
        clear c1 c2 c4 c5 c6 c7
        go_wp2_with fail
        refine (hdc _ hdoc1).mono ?_
        rintro e w2 ⟨rfl, hv', l', hd2, hcg2, hnew2⟩
        have hne2 : ¬ fpI B.r B.hv B.l B.s B.x := fun h => hpr2.parted h rfl
        have hsz1 := hcg.size
        have hend := hHU.out w2 ⟨B.x, B.r, hv', l', s2⟩ ((hcg.mono (fun k _ h => Or.inl h) : Chg B.fp wc w1).trans hcg2 (fun k _ h => Or.inr h)) ⟨InbAt.block hpc1 (hcg2.block _ (Nat.lt_of_lt_of_le hcl hsz1) hne2), hd2, hok2⟩ rfl rfl (fun k hk => by
          rcases hk with hk | hk
          · exact Or.inl (Or.inl hk)
          · rcases hnew2 k hk with h | h
            · exact Or.inl (Or.inr h)
            · right; omega)
        clear hHO hHU hpr2 hopc hx hdc hdoc1 hd2 hop' hx' y0 y1 c0 c8 hcg hcg2 hpc1 hnew2
        go_wp2_with fail
        go_ret
        exact ⟨by first | rfl | simp, hend⟩
      · have hob := whole_by B.x _ _ _ wc (owhole_any B.x 96 B.s wc hpr2.prog hpr2.ok)
        have hdc := fun W h => rwhole_any B.r B.hv B.l B.s W h hpr2.ok
        obtain ⟨xo, no, hoe⟩ := wholeE_form B.s
        rw [hoe] at hob hdc
        dsimp only at hob hdc
        clear hoe
        have hse : (xo.toList == xo.toList) = true := by simp
        go_wp2_with fail
        refine hob.mono ?_
        rintro e w1 ⟨rfl, hb1⟩
        have hdoc1 := hpr2.doc.on hb1
        have hx' := block_on hx hb1
        obtain ⟨y0, y1⟩ := two_cells hx'
        clear hx0 hx1 c0 c8 hob
        go_wp2_with fail
        refine (hdc _ hdoc1).mono ?_
        rintro e w2 ⟨rfl, hb2⟩
        have hend := hHO.out w2 (hb1.trans (hb2.mono hb1.size))
        clear hHO hHU hpr2 hopc hx hdc hdoc1 hx' y0 y1 hb1 hb2
        go_wp2_with fail
        go_ret
        exact ⟨by first | rfl | simp, hend⟩
      · have hwa := lacks_by B.x _ _ wc (olacks_any B.x 96 B.s wc hpr2.prog hpr2.ok)
        have hdc := fun W h => rlacks_any B.r B.hv B.l B.s W h hpr2.ok
        generalize lackE B.s = ee at *
        go_wp2_with fail
        refine hwa.mono ?_
        rintro e w1 ⟨rfl, h1⟩
        obtain rfl := h1.symm
        clear hwa
        go_wp2_with fail
        refine (hdc _ hpr2.doc).mono ?_
        rintro e w2 ⟨rfl, hb2⟩
        have hend := hHO.out w2 hb2
        clear hHO hHU hpr2 hopc hx hdc hx0 hx1 c0 c8 hb2
        go_wp2_with fail
        go_ret
        exact ⟨by first | rfl | simp, hend⟩

end Go.Proofs.YtnjaofkieajnlaaGreat

/- The statement's own 'step' over the calls of inboxes. -/
namespace Go.Proofs.YtnjaofkieajnlaaGreat
open Go.RowKit

theorem Tryz.infoInbs : (Tryz.prog.info? 57).map (fun i => (i.zero, i.size, i.bytes)) = some (some (.agg #[.pointer none, .pointer none]), 2, 16) := by kernel_rfl

abbrev inb0 : Obj := inbB IS.zero (.slice none 0 0)

/-- What a step on inboxes leaves. -/
def InbStep (wb : Nat) (f : Nat → Value) (csv : Value) (cl : List PI) (w w' : World) : Prop :=
  ∃ csv' cl', w'.rowIs wb 39 14 (fun i => if i = 8 then csv' else f i) ∧ PairsAt inbK w' 57 csv' cl' ∧ cl'.length ≤ cl.length + 1 ∧ Chg (fun k => k = wb ∨ pfp inbK csv cl k) w w' ∧ (∀ k, pfp inbK csv' cl' k → pfp inbK csv cl k ∨ w.heap.size ≤ k)

set_option maxRecDepth 100000 in
set_option maxHeartbeats 8000000 in
theorem step_open (wb : Nat) (f : Nat → Value) (csv : Value) (cl : List PI) (a b c K M O S : Int) (s : ByteArray) (lv : Value) (w : World) (hrow : w.rowIs wb 39 14 f) (hf8 : f 8 = csv) (hat : PairsAt inbK w 57 csv cl) (hwn : ¬ pfp inbK csv cl wb) (hl : cl.length ≤ 4000000000000) :
    Calls Tryz.prog 9 #[.pointer (some ⟨wb, 0, none⟩), .agg (opC 9 a b c K M O S s lv)] w fun e w' => e = .returned (.bool true) ∧ InbStep wb f csv cl w w' := by
  obtain ⟨i0, hii, hz0, hz1, hz2⟩ := info_parts Tryz.infoInbs
  have hbA := (Below.refl w.heap.size w).alloc (Nat.le_refl _) (.cells (opC 9 a b c K M O S s lv) 29)
  have hop : (w.alloc (.cells (opC 9 a b c K M O S s lv) 29)).heap[w.heap.size]? = some (.cells (opC 9 a b c K M O S s lv) 29 (0, 0)) := heap_alloc_new w _
  obtain ⟨c0, _⟩ := op_cells hop
  have hwl := hrow.lt
  go_enter Tryz.func9, Tryz.ntmps9
  go_wp2_with fail
  refine (open_any _).mono ?_
  rintro e w1 ⟨p, rfl, hcn, hp, hb1⟩
  have hb01 : Below w.heap.size w w1 := hbA.trans (hb1.mono hbA.size)
  have hat1 := hat.on hb01
  have hrow1 : w1.rowIs wb 39 14 f := hrow.of_block (hb01.block wb hwl)
  have hcb : w1.cell? ⟨wb, 8, none⟩ = some csv := by rw [← hf8]; exact hrow1.cell (i := 8) (by omega)
  have hfb := hrow1.frozen 8
  have hwl1 := hrow1.lt
  have hpw : w.heap.size ≤ p := by simp at hp; omega
  have hpl := InbAt.lt hcn
  have hbR := (Below.refl w1.heap.size w1).alloc (Nat.le_refl _) (inb0)
  have hatR := hat1.on hbR
  have hpair : InbPair (w1.alloc (inb0)) ⟨p, w1.heap.size, .slice none 0 0, [], IS.zero⟩ :=
    ⟨InbAt.on hcn (Nat.le_refl _) hbR, ⟨heap_alloc_new w1 _, PartsAt.empty _, fun _ => rfl⟩, ISok.new⟩
  have hfpb : ∀ x, (PI.fp ⟨p, w1.heap.size, .slice none 0 0, [], IS.zero⟩ x) → x = p ∨ x = w1.heap.size := fun x hx => by
    rcases hx with hx | hx | hx | ⟨i, hi, _⟩
    · exact Or.inl hx
    · exact Or.inr hx
    · simp [Value.ownBlock] at hx
    · simp at hi
  have hcsw : csv.ownBlock ≠ some wb := fun e => hwn (Or.inl e)
  have hfin : ∀ g cap w3, w3.ownsRow 0 57 2 (.slice (some ⟨g, 0, none⟩) (cl.length + 1) cap) (cl.length + 1) (inbK.vals cl ++ [.pointer (some ⟨p, 0, none⟩), .pointer (some ⟨w1.heap.size, 0, none⟩)]) → (w1.alloc (inb0)).grownBy w3 csv.ownBlock → (csv.ownBlock = some g ∨ g = w1.heap.size + 1 + 1) →
      InbStep wb f csv cl w (w3.setCell ⟨wb, 8, none⟩ (.slice (some ⟨g, 0, none⟩) (cl.length + 1) cap)) := fun g cap w3 ho hg ha => by
    have hsz1 := hb01.size
    have hszR : (w1.alloc (inb0)).heap.size = w1.heap.size + 1 := by simp
    obtain ⟨u1, u2⟩ := hatR.snoc (b := ⟨p, w1.heap.size, .slice none 0 0, [], IS.zero⟩) (g := g) (cap := cap) hpair (fun x hx hx2 => by
      rcases hfpb x hx with rfl | rfl
      · have := hat.lt hx2
        omega
      · have := hat1.lt hx2
        omega) hg (by rw [Kind.vals_append]; exact ho) rfl (by rcases ha with h | h; exact Or.inl h; right; rw [hszR]; omega)
    have hnew : ∀ k, pfp inbK (.slice (some ⟨g, 0, none⟩) (cl.length + 1) cap) (cl ++ [⟨p, w1.heap.size, .slice none 0 0, [], IS.zero⟩]) k → pfp inbK csv cl k ∨ w.heap.size ≤ k := fun k hk => by
      rcases u2 k hk with h | h | h
      · exact Or.inl h
      · rcases hfpb k h with rfl | rfl
        · exact Or.inr hpw
        · right; omega
      · right; rw [hszR] at h; omega
    have hnw : ¬ pfp inbK (.slice (some ⟨g, 0, none⟩) (cl.length + 1) cap) (cl ++ [⟨p, w1.heap.size, .slice none 0 0, [], IS.zero⟩]) wb := fun h => by
      rcases hnew wb h with h | h
      · exact hwn h
      · omega
    have hrow3 : w3.rowIs wb 39 14 f := (hrow1.of_block (hbR.block wb hwl1)).of_block (hg.block wb (by rw [hszR]; omega) (fun e => hcsw e.symm))
    refine ⟨_, _, hrow3.set 8 _, u1.blocks (fun k hk => heap_setCell_other _ _ _ _ (by rintro rfl; exact hnw hk)), by simp, ?_, hnew⟩
    have hc1 : Chg (fun k => k = wb ∨ pfp inbK csv cl k) w (w1.alloc (inb0)) := (Chg.of_below hb01 _).alloc _
    exact (hc1.grown hg (fun k e => Or.inr (Or.inr (Or.inl e.symm.symm)))).setCell (a := ⟨wb, 8, none⟩) (Or.inr (Or.inl rfl)) _
  have HF := hide hfin
  have hown0 := hat1.own
  clear hfin hfpb hpair hatR hat hat1 hcn hop hrow hrow1 hbR hb1 hbA c0
  go_wp2_with (at_builtin; refine wpList_append_lies _ rfl (.tmp 55) (.tmp 60) 35 rfl 0 57 i0 (.agg #[.pointer none, .pointer none]) 2 16 Tryz.underlying35 hii hz0 hz1 hz2 rfl (by decide) _ _ _ rfl ((hown0.alloc _).alloc _) ⟨w1.heap.size + 1, 0, none⟩ 1 1 [.pointer (some ⟨p, 0, none⟩), .pointer (some ⟨w1.heap.size, 0, none⟩)] rfl rfl (World.news_of_block (cs := #[_, _]) (heap_alloc2 w1 _ _)) (by intro u hu; simp at hu; rcases hu with rfl | rfl <;> rfl) (by decide) (by unfold maxLen; omega) (by omega) (Nat.zero_le _) (w1.heap.size + 1 + 1) (by simp) ?_)
  intro g cap w3 hown3 hgr3 hat4 hlt3
  have hgr := grownBy_of_alloc (grownBy_of_alloc hgr3)
  have q6 := (hgr.cell_far ⟨wb, 8, none⟩ hwl1 (fun e => hcsw e.symm)).trans hcb
  have f6 := (hgr.frozen_far ⟨wb, 8, none⟩ hwl1 (fun e => hcsw e.symm)).trans hfb
  have hend := HF.out g cap w3 hown3 (grownBy_of_alloc hgr3) hat4
  clear HF hown3 hgr3 hgr hat4 hown0 hcb hfb
  go_wp2_with fail
  go_ret
  exact ⟨rfl, hend⟩

set_option maxRecDepth 100000 in
set_option maxHeartbeats 8000000 in
theorem step_inb (wb : Nat) (f : Nat → Value) (csv : Value) (cl : List PI) (k a b c K M O S : Int) (s : ByteArray) (lv : Value) (w : World) (hrow : w.rowIs wb 39 14 f) (hf8 : f 8 = csv) (hat : PairsAt inbK w 57 csv cl) (hwn : ¬ pfp inbK csv cl wb) (hl : cl.length ≤ 4000000000000) (ha1 : -9223372036854775808 ≤ a) (ha2 : a ≤ 9223372036854775807) (hk : 9 ≤ k ∧ k ≤ 12) :
    Calls Tryz.prog 9 #[.pointer (some ⟨wb, 0, none⟩), .agg (opC k a b c K M O S s lv)] w fun e w' => e = .returned (.bool true) ∧ InbStep wb f csv cl w w' := by
  by_cases h5 : k = 9
  · subst h5
    exact step_open wb f csv cl a b c K M O S s lv w hrow hf8 hat hwn hl
  · have hk2 : k = 10 ∨ k = 11 ∨ k = 12 := by omega
    have hbA := (Below.refl w.heap.size w).alloc (Nat.le_refl _) (.cells (opC k a b c K M O S s lv) 29)
    have hop : (w.alloc (.cells (opC k a b c K M O S s lv) 29)).heap[w.heap.size]? = some (.cells (opC k a b c K M O S s lv) 29 (0, 0)) := heap_alloc_new w _
    have hwl := hrow.lt
    have hrowA : (w.alloc (.cells (opC k a b c K M O S s lv) 29)).rowIs wb 39 14 f := hrow.of_block (hbA.block wb hwl)
    have hhe := taken_any wb csv cl k a b c K M O S s lv _ (by rw [← hf8]; exact hrowA.cell (i := 8) (by omega)) hrowA.lt (hat.on hbA) ha1 ha2 hk2
    have hfin : ∀ w', (∃ cl', PairsAt inbK w' 57 csv cl' ∧ cl'.length = cl.length ∧ Chg (pfp inbK csv cl) (w.alloc (.cells (opC k a b c K M O S s lv) 29)) w' ∧ (∀ k_1, pfp inbK csv cl' k_1 → pfp inbK csv cl k_1 ∨ (w.alloc (.cells (opC k a b c K M O S s lv) 29)).heap.size ≤ k_1)) → InbStep wb f csv cl w w' := by
      rintro w' ⟨cl', h1, h2, h3, h4⟩
      refine ⟨csv, cl', (hrowA.of_block (h3.block wb hrowA.lt hwn)).congr (fun i _ => ?_), h1, by omega, (chg_below hbA h3).mono (fun k _ h => Or.inr h), fun k hk => ?_⟩
      · by_cases e : i = 8
        · rw [if_pos e, e, hf8]
        · rw [if_neg e]
      · rcases h4 k hk with h | h
        · exact Or.inl h
        · right; have := hbA.size; omega
    have HF := hide hfin
    clear hfin hrowA hat hrow
    go_enter Tryz.func9, Tryz.ntmps9
    rcases hk2 with rfl | rfl | rfl
    all_goals
      go_wp2_with fail
      refine hhe.mono ?_
      rintro e w1 ⟨rfl, h2⟩
      have hend := HF.out w1 h2
      clear hop hhe h2 HF hbA
      go_wp2_with fail
      go_ret
      exact ⟨rfl, hend⟩

end Go.Proofs.YtnjaofkieajnlaaGreat

/- All of the statement's world, and what one step of whatever kind leaves of it. -/
namespace Go.Proofs.YtnjaofkieajnlaaGreat
open Go.RowKit

/-- The world: boxes, catchers, inboxes and lists, each with blocks of its own. -/
structure WdAt (w0 : World) (wb n : Nat) (w : World) (f : Nat → Value) (col : Nat → Nat) (s : LS) (bl : List PB) (cl : List PC) (xl : List PI) : Prop where
  row : w.rowIs wb 39 14 f
  wbc : col wb = 0
  old : ∀ k, k < w0.heap.size → col k = 0
  bs : PairsAt boxK w 72 (f 6) bl
  bc : ∀ k, pfp boxK (f 6) bl k → col k = 1
  cs : PairsAt catK w 49 (f 7) cl
  cc : ∀ k, pfp catK (f 7) cl k → col k = 2
  xs : PairsAt inbK w 57 (f 8) xl
  xc : ∀ k, pfp inbK (f 8) xl k → col k = 3
  lists : ListsAt w f col (2 * n) s
  bn : bl.length ≤ n
  cn : cl.length ≤ n
  xn : xl.length ≤ n
  below : Chg (fun k => k = wb) w0 w

def WA (w0 : World) (wb n nb : Nat) (w : World) : Prop := ∃ f col s bl cl xl, WdAt w0 wb n w f col s bl cl xl ∧ bl.length = nb

/-- New blocks get a colour. -/
def colC (c : Nat) (w : World) (col : Nat → Nat) (k : Nat) : Nat := if k < w.heap.size then col k else c

namespace WdAt
variable {w0 : World} {wb n : Nat} {w w' : World} {f : Nat → Value} {col : Nat → Nat} {s : LS} {bl : List PB} {cl : List PC} {xl : List PI}

theorem onBox (h : WdAt w0 wb n w f col s bl cl xl) {v' : Value} {bl' : List PB} (hr : w'.rowIs wb 39 14 (fun i => if i = 6 then v' else f i)) (hp : PairsAt boxK w' 72 v' bl') (hl : bl'.length ≤ n + 1) (hc : Chg (fun k => k = wb ∨ pfp boxK (f 6) bl k) w w') (hn : ∀ k, pfp boxK v' bl' k → pfp boxK (f 6) bl k ∨ w.heap.size ≤ k) :
    WdAt w0 wb (n + 1) w' (fun i => if i = 6 then v' else f i) (colC 1 w col) s bl' cl xl := by
  have hco : ∀ k, k < w.heap.size → colC 1 w col k = col k := fun k hk => by unfold colC; rw [if_pos hk]
  have hcn : ∀ k, w.heap.size ≤ k → colC 1 w col k = 1 := fun k hk => by unfold colC; rw [if_neg (by omega)]
  have hwl := h.row.lt
  have hsz := h.below.size
  have hfar : ∀ k, k < w.heap.size → 2 ≤ col k → w'.heap[k]? = w.heap[k]? := fun k hk h2 => hc.block k hk (fun x => by
    rcases x with rfl | x
    · have := h.wbc; omega
    · have := h.bc k x; omega)
  refine ⟨hr, by rw [hco wb hwl]; exact h.wbc, fun k hk => by rw [hco k (by omega)]; exact h.old k hk, hp, fun k hk => ?_, h.cs.blocks (fun k hk => hfar k (h.cs.lt hk) (by rw [h.cc k hk]; omega)), fun k hk => by rw [hco k (h.cs.lt hk)]; exact h.cc k hk, h.xs.blocks (fun k hk => hfar k (h.xs.lt hk) (by rw [h.xc k hk]; omega)), fun k hk => by rw [hco k (h.xs.lt hk)]; exact h.xc k hk, ?_, hl, Nat.le_succ_of_le h.cn, Nat.le_succ_of_le h.xn, h.below.trans hc (fun k hlt hk => ?_)⟩
  · rcases hn k hk with h1 | h1
    · rw [hco k (h.bs.lt h1)]; exact h.bc k h1
    · exact hcn k h1
  · exact (h.lists.keep (fun k hk h4 => hfar k hk (by omega)) (fun i hi _ => by rw [if_neg (by omega)]) (fun k hk _ => hco k hk)).mono (by omega)
  · rcases hk with hk | hk
    · exact hk
    · have := h.old k hlt; have := h.bc k hk; omega

theorem onCat (h : WdAt w0 wb n w f col s bl cl xl) (hs : CatStep wb f (f 7) cl w w') : ∃ f' col' cl', WdAt w0 wb (n + 1) w' f' col' s bl cl' xl := by
  obtain ⟨v', cl', hr, hp, hl, hc, hn⟩ := hs
  have hco : ∀ k, k < w.heap.size → colC 2 w col k = col k := fun k hk => by unfold colC; rw [if_pos hk]
  have hcn : ∀ k, w.heap.size ≤ k → colC 2 w col k = 2 := fun k hk => by unfold colC; rw [if_neg (by omega)]
  have hwl := h.row.lt
  have hsz := h.below.size
  have hfar : ∀ k, k < w.heap.size → (col k = 1 ∨ 3 ≤ col k) → w'.heap[k]? = w.heap[k]? := fun k hk h2 => hc.block k hk (fun x => by
    rcases x with rfl | x
    · have := h.wbc; omega
    · have := h.cc k x; omega)
  have hcn' := h.cn
  refine ⟨_, colC 2 w col, cl', hr, by rw [hco wb hwl]; exact h.wbc, fun k hk => by rw [hco k (by omega)]; exact h.old k hk, h.bs.blocks (fun k hk => hfar k (h.bs.lt hk) (Or.inl (h.bc k hk))), fun k hk => by rw [hco k (h.bs.lt hk)]; exact h.bc k hk, hp, fun k hk => ?_, h.xs.blocks (fun k hk => hfar k (h.xs.lt hk) (by rw [h.xc k hk]; omega)), fun k hk => by rw [hco k (h.xs.lt hk)]; exact h.xc k hk, ?_, Nat.le_succ_of_le h.bn, by omega, Nat.le_succ_of_le h.xn, h.below.trans hc (fun k hlt hk => ?_)⟩
  · rcases hn k hk with h1 | h1
    · rw [hco k (h.cs.lt h1)]; exact h.cc k h1
    · exact hcn k h1
  · exact (h.lists.keep (fun k hk h4 => hfar k hk (by omega)) (fun i hi _ => by rw [if_neg (by omega)]) (fun k hk _ => hco k hk)).mono (by omega)
  · rcases hk with hk | hk
    · exact hk
    · have := h.old k hlt; have := h.cc k hk; omega

theorem onInb (h : WdAt w0 wb n w f col s bl cl xl) (hs : InbStep wb f (f 8) xl w w') : ∃ f' col' xl', WdAt w0 wb (n + 1) w' f' col' s bl cl xl' := by
  obtain ⟨v', xl', hr, hp, hl, hc, hn⟩ := hs
  have hco : ∀ k, k < w.heap.size → colC 3 w col k = col k := fun k hk => by unfold colC; rw [if_pos hk]
  have hcn : ∀ k, w.heap.size ≤ k → colC 3 w col k = 3 := fun k hk => by unfold colC; rw [if_neg (by omega)]
  have hwl := h.row.lt
  have hsz := h.below.size
  have hfar : ∀ k, k < w.heap.size → (col k = 1 ∨ col k = 2 ∨ 4 ≤ col k) → w'.heap[k]? = w.heap[k]? := fun k hk h2 => hc.block k hk (fun x => by
    rcases x with rfl | x
    · have := h.wbc; omega
    · have := h.xc k x; omega)
  have hxn' := h.xn
  refine ⟨_, colC 3 w col, xl', hr, by rw [hco wb hwl]; exact h.wbc, fun k hk => by rw [hco k (by omega)]; exact h.old k hk, h.bs.blocks (fun k hk => hfar k (h.bs.lt hk) (Or.inl (h.bc k hk))), fun k hk => by rw [hco k (h.bs.lt hk)]; exact h.bc k hk, h.cs.blocks (fun k hk => hfar k (h.cs.lt hk) (Or.inr (Or.inl (h.cc k hk)))), fun k hk => by rw [hco k (h.cs.lt hk)]; exact h.cc k hk, hp, fun k hk => ?_, ?_, Nat.le_succ_of_le h.bn, Nat.le_succ_of_le h.cn, by omega, h.below.trans hc (fun k hlt hk => ?_)⟩
  · rcases hn k hk with h1 | h1
    · rw [hco k (h.xs.lt h1)]; exact h.xc k h1
    · exact hcn k h1
  · exact (h.lists.keep (fun k hk h4 => hfar k hk (by omega)) (fun i hi _ => by rw [if_neg (by omega)]) (fun k hk _ => hco k hk)).mono (by omega)
  · rcases hk with hk | hk
    · exact hk
    · have := h.old k hlt; have := h.xc k hk; omega

theorem on (h : WdAt w0 wb n w f col s bl cl xl) (hb : Below w.heap.size w w') : WdAt w0 wb (n + 1) w' f col s bl cl xl := by
  have hwl := h.row.lt
  exact ⟨h.row.of_block (hb.block wb hwl), h.wbc, h.old, h.bs.on hb, h.bc, h.cs.on hb, h.cc, h.xs.on hb, h.xc, (h.lists.keep (fun k hk _ => hb.block k hk) (fun _ _ _ => rfl) (fun _ _ _ => rfl)).mono (by omega), Nat.le_succ_of_le h.bn, Nat.le_succ_of_le h.cn, Nat.le_succ_of_le h.xn, h.below.trans (Chg.of_below hb (fun _ => False)) (fun _ _ x => x.elim)⟩

theorem on' (h : WdAt w0 wb n w f col s bl cl xl) (hb : Below w.heap.size w w') : WdAt w0 wb n w' f col s bl cl xl := by
  have hwl := h.row.lt
  exact ⟨h.row.of_block (hb.block wb hwl), h.wbc, h.old, h.bs.on hb, h.bc, h.cs.on hb, h.cc, h.xs.on hb, h.xc, h.lists.keep (fun k hk _ => hb.block k hk) (fun _ _ _ => rfl) (fun _ _ _ => rfl), h.bn, h.cn, h.xn, h.below.trans (Chg.of_below hb (fun _ => False)) (fun _ _ x => x.elim)⟩

theorem onList (h : WdAt w0 wb n w f col s bl cl xl) (ht : TookL w w' wb f col (2 * n)) : ∃ f' col' s', WdAt w0 wb (n + 1) w' f' col' s' bl cl xl := by
  obtain ⟨⟨f', col', s', hr, hL, hf, hcl⟩, hc⟩ := ht
  have hwl := h.row.lt
  have hsz := h.below.size
  have e6 := hf 6 (by omega) (by omega)
  have e7 := hf 7 (by omega) (by omega)
  have e8 := hf 8 (by omega) (by omega)
  have hfar : ∀ k, k < w.heap.size → k ≠ wb → col k ≤ 3 → w'.heap[k]? = w.heap[k]? := fun k hk hne h2 => hc.block k hk (fun x => by
    rcases x with x | x
    · exact hne x
    · omega)
  have hne : ∀ k, 1 ≤ col k → k ≠ wb := fun k hk e => by rw [e, h.wbc] at hk; omega
  refine ⟨f', col', s', hr, by rw [hcl wb hwl (by rw [h.wbc]; omega)]; exact h.wbc, fun k hk => by rw [hcl k (by omega) (by rw [h.old k hk]; omega)]; exact h.old k hk, ?_, ?_, ?_, ?_, ?_, ?_, hL, Nat.le_succ_of_le h.bn, Nat.le_succ_of_le h.cn, Nat.le_succ_of_le h.xn, ?_⟩
  · rw [e6]; exact h.bs.blocks (fun k hk => hfar k (h.bs.lt hk) (hne k (by rw [h.bc k hk]; omega)) (by rw [h.bc k hk]; omega))
  · rw [e6]; exact fun k hk => by rw [hcl k (h.bs.lt hk) (by rw [h.bc k hk]; omega)]; exact h.bc k hk
  · rw [e7]; exact h.cs.blocks (fun k hk => hfar k (h.cs.lt hk) (hne k (by rw [h.cc k hk]; omega)) (by rw [h.cc k hk]; omega))
  · rw [e7]; exact fun k hk => by rw [hcl k (h.cs.lt hk) (by rw [h.cc k hk]; omega)]; exact h.cc k hk
  · rw [e8]; exact h.xs.blocks (fun k hk => hfar k (h.xs.lt hk) (hne k (by rw [h.xc k hk]; omega)) (by rw [h.xc k hk]; omega))
  · rw [e8]; exact fun k hk => by rw [hcl k (h.xs.lt hk) (by rw [h.xc k hk]; omega)]; exact h.xc k hk
  · exact h.below.trans hc (fun k hlt hk => by
      rcases hk with hk | hk
      · exact hk
      · have := h.old k hlt; omega)

end WdAt

set_option maxRecDepth 100000 in
set_option maxHeartbeats 8000000 in
theorem step_list (wb : Nat) (f : Nat → Value) (col : Nat → Nat) (N : Nat) (st : LS) (k a b c K M O S : Int) (s : ByteArray) (lv : Value) (l : List ByteArray) (w : World) (hrow : w.rowIs wb 39 14 f) (h : ListsAt w f col N st) (hwb : col wb = 0) (hN : N ≤ 2900000) (hs : s.size ≤ 1125899906842624) (hl : l.length ≤ 8796093022208) (ht : TextsAt w lv l) (hk : 13 ≤ k ∧ k ≤ 17) :
    Calls Tryz.prog 9 #[.pointer (some ⟨wb, 0, none⟩), .agg (opC k a b c K M O S s lv)] w fun e w' => e = .returned (.bool true) ∧ ListStep wb f col N w w' := by
  obtain ⟨ao, cap, rfl, hcap, hcells⟩ := ht
  have ht : TextsAt w (.slice ao l.length cap) l := ⟨ao, cap, rfl, hcap, hcells⟩
  have hk2 : k = 13 ∨ k = 14 ∨ k = 15 ∨ k = 16 ∨ k = 17 := by omega
  have hbA := (Below.refl w.heap.size w).alloc (Nat.le_refl _) (.cells (opC k a b c K M O S s (.slice ao l.length cap)) 29)
  have hop : (w.alloc (.cells (opC k a b c K M O S s (.slice ao l.length cap)) 29)).heap[w.heap.size]? = some (.cells (opC k a b c K M O S s (.slice ao l.length cap)) 29 (0, 0)) := heap_alloc_new w _
  have hwl := hrow.lt
  have hli := listed_any wb f (colN w col) N st k a b c K M O S s (.slice ao l.length cap) l _ (hrow.of_block (hbA.block wb hwl)) (h.after hbA) (by unfold colN; rw [if_pos hwl]; exact hwb) hN hs hl (ht.on hbA) hk
  have HF : Hid (∀ w', ListStep wb f (colN w col) N (w.alloc (.cells (opC k a b c K M O S s (.slice ao l.length cap)) 29)) w' → ListStep wb f col N w w') := hide (fun w' hx => by
    rcases hx with hx | hx
    · exact Or.inl (hx.back hbA)
    · exact Or.inr (hbA.trans (hx.mono hbA.size)))
  clear hrow h hwb hN ht hcells hcap hbA
  go_enter Tryz.func9, Tryz.ntmps9
  rcases hk2 with rfl | rfl | rfl | rfl | rfl
  all_goals
    go_wp2_with fail
    refine hli.mono ?_
    rintro e w1 ⟨rfl, h2⟩
    have hend := HF.out w1 h2
    clear hop hli h2 HF
    go_wp2_with fail
    go_ret
    exact ⟨rfl, hend⟩

set_option maxRecDepth 100000 in
set_option maxHeartbeats 8000000 in
theorem step_no (wb : Nat) (k a b c K M O S : Int) (s : ByteArray) (lv : Value) (w : World) (hk : k < 1 ∨ 17 < k) :
    Calls Tryz.prog 9 #[.pointer (some ⟨wb, 0, none⟩), .agg (opC k a b c K M O S s lv)] w fun e w' => e = .returned (.bool true) ∧ Below w.heap.size w w' := by
  have hbA := (Below.refl w.heap.size w).alloc (Nat.le_refl _) (.cells (opC k a b c K M O S s lv) 29)
  have hop : (w.alloc (.cells (opC k a b c K M O S s lv) 29)).heap[w.heap.size]? = some (.cells (opC k a b c K M O S s lv) 29 (0, 0)) := heap_alloc_new w _
  obtain ⟨c0, _⟩ := op_cells hop
  have n1 : (k == 1) = false := beq_eq_false_iff_ne.2 (by omega)
  have n2 : (k == 2) = false := beq_eq_false_iff_ne.2 (by omega)
  have n3 : (k == 3) = false := beq_eq_false_iff_ne.2 (by omega)
  have n4 : (k == 4) = false := beq_eq_false_iff_ne.2 (by omega)
  have n5 : (k == 5) = false := beq_eq_false_iff_ne.2 (by omega)
  have n6 : (k == 6) = false := beq_eq_false_iff_ne.2 (by omega)
  have n7 : (k == 7) = false := beq_eq_false_iff_ne.2 (by omega)
  have n8 : (k == 8) = false := beq_eq_false_iff_ne.2 (by omega)
  have n9 : (k == 9) = false := beq_eq_false_iff_ne.2 (by omega)
  have n10 : (k == 10) = false := beq_eq_false_iff_ne.2 (by omega)
  have n11 : (k == 11) = false := beq_eq_false_iff_ne.2 (by omega)
  have n12 : (k == 12) = false := beq_eq_false_iff_ne.2 (by omega)
  have n13 : (k == 13) = false := beq_eq_false_iff_ne.2 (by omega)
  have n14 : (k == 14) = false := beq_eq_false_iff_ne.2 (by omega)
  have n15 : (k == 15) = false := beq_eq_false_iff_ne.2 (by omega)
  have n16 : (k == 16) = false := beq_eq_false_iff_ne.2 (by omega)
  have n17 : (k == 17) = false := beq_eq_false_iff_ne.2 (by omega)
  clear hk hop
  go_enter Tryz.func9, Tryz.ntmps9
  go_wp2_with fail
  go_ret
  exact ⟨rfl, hbA⟩

/-- A step of whatever kind. -/
theorem step_all (w0 : World) (wb n nb : Nat) (k a b c K M O S : Int) (s : ByteArray) (lv : Value) (l : List ByteArray) (w : World) (h : WA w0 wb n nb w) (hn : n ≤ 1400000) (hs : s.size ≤ 1125899906842624) (hl : l.length ≤ 8796093022208) (ht : TextsAt w lv l) (ha1 : -9223372036854775808 ≤ a) (ha2 : a ≤ 9223372036854775807) :
    Calls Tryz.prog 9 #[.pointer (some ⟨wb, 0, none⟩), .agg (opC k a b c K M O S s lv)] w fun e w' => e = .returned (.bool true) ∧ ∃ nb', WA w0 wb (n + 1) nb' w' ∧ (5 ≤ k → nb' = nb) ∧ (mayB K M O S = true → 1 ≤ a → a ≤ 16 → k = 1 → nb' = nb + 1) := by
  obtain ⟨f, col, st, bl, cl, xl, h, hnb⟩ := h
  have hbn := h.bn
  have hcn := h.cn
  have hxn := h.xn
  by_cases k0 : k < 1 ∨ 17 < k
  · exact (step_no wb k a b c K M O S s lv w k0).mono fun e w' ⟨he, hb⟩ => ⟨he, nb, ⟨f, col, st, bl, cl, xl, h.on hb, hnb⟩, fun _ => rfl, fun _ _ _ _ => by omega⟩
  · by_cases k1 : k ≤ 4
    · have hx : BX (pfp boxK (f 6) bl) f w w wb (f 6) bl := ⟨h.row.congr (fun i _ => by
        by_cases e : i = 6
        · rw [if_pos e, e]
        · rw [if_neg e]), h.bs, Chg.refl _ _, fun k hk => Or.inl hk, fun hk => by have := h.bc wb hk; have := h.wbc; omega, h.row.lt⟩
      refine (xstep_any (pfp boxK (f 6) bl) f w wb (f 6) bl k a b c K M O S s lv w hx (by omega) ha1 ha2 (by omega)).mono fun e w' ⟨he, bsv', bl', hbx, hbl, hex⟩ => ⟨he, bl'.length, ⟨_, _, st, bl', cl, xl, h.onBox hbx.row hbx.pairs (by omega) hbx.chg hbx.new, rfl⟩, fun _ => by omega, fun m a1 a2 e1 => by rw [hex m a1 a2 e1, hnb]⟩
    · by_cases k2 : k ≤ 8
      · refine (step_cat wb f (f 7) cl k a b c K M O S s lv w h.row rfl h.cs (fun hk => by have := h.cc wb hk; have := h.wbc; omega) (by omega) ha1 ha2 (by omega)).mono fun e w' ⟨he, hst⟩ => ?_
        obtain ⟨f', col', cl', h'⟩ := h.onCat hst
        exact ⟨he, nb, ⟨f', col', st, bl, cl', xl, h', hnb⟩, fun _ => rfl, fun _ _ _ _ => by omega⟩
      · by_cases k3 : k ≤ 12
        · refine (step_inb wb f (f 8) xl k a b c K M O S s lv w h.row rfl h.xs (fun hk => by have := h.xc wb hk; have := h.wbc; omega) (by omega) ha1 ha2 (by omega)).mono fun e w' ⟨he, hst⟩ => ?_
          obtain ⟨f', col', xl', h'⟩ := h.onInb hst
          exact ⟨he, nb, ⟨f', col', st, bl, cl, xl', h', hnb⟩, fun _ => rfl, fun _ _ _ _ => by omega⟩
        · refine (step_list wb f col (2 * n) st k a b c K M O S s lv l w h.row h.lists h.wbc (by omega) hs hl ht (by omega)).mono fun e w' ⟨he, hst⟩ => ?_
          rcases hst with hst | hst
          · obtain ⟨f', col', s', h'⟩ := h.onList hst
            exact ⟨he, nb, ⟨f', col', s', bl, cl, xl, h', hnb⟩, fun _ => rfl, fun _ _ _ _ => by omega⟩
          · exact ⟨he, nb, ⟨f, col, st, bl, cl, xl, h.on hst, hnb⟩, fun _ => rfl, fun _ _ _ _ => by omega⟩

end Go.Proofs.YtnjaofkieajnlaaGreat

/- The statement's own 'plays', for any kinds of steps. -/
namespace Go.Proofs.YtnjaofkieajnlaaGreat
open Go.RowKit

/-- A world of which nothing has come. -/
def world0 (i : Nat) : Value := #[.int .i64 0, .bool false, .slice none 0 0, .slice none 0 0, .slice none 0 0, .slice none 0 0, .slice none 0 0, .slice none 0 0, .slice none 0 0, .slice none 0 0, .slice none 0 0, .slice none 0 0, .slice none 0 0, .slice none 0 0].getD i undef

theorem world0_at (w : World) : (w.alloc (worldB (.slice none 0 0))).rowIs w.heap.size 39 14 world0 := by
  refine ⟨_, heap_alloc_new w _, rfl, fun i hi => ?_⟩
  have : i = 0 ∨ i = 1 ∨ i = 2 ∨ i = 3 ∨ i = 4 ∨ i = 5 ∨ i = 6 ∨ i = 7 ∨ i = 8 ∨ i = 9 ∨ i = 10 ∨ i = 11 ∨ i = 12 ∨ i = 13 := by omega
  rcases this with rfl | rfl | rfl | rfl | rfl | rfl | rfl | rfl | rfl | rfl | rfl | rfl | rfl | rfl <;> rfl

set_option maxRecDepth 100000 in
set_option maxHeartbeats 8000000 in
theorem plays_gen (v : Value) (l : List OpR) (fo : Array Value) (kf af bf cf Kf Mf Of Sf : Int) (sf : ByteArray) (lf : Value) (hfo : fo = opC kf af bf cf Kf Mf Of Sf sf lf) (lo hi : Int) (w : World) (J : Nat → World → Prop) (hl : l.length ≤ 1400000000000) (hat : OpsAt w v l)
    (hbel : ∀ n W, J n W → Below w.heap.size w W)
    (hfirst : Calls Tryz.prog 9 #[.pointer (some ⟨w.heap.size + 1, 0, none⟩), .agg fo] ((w.alloc (.cells fo 29)).alloc (worldB (.slice none 0 0))) fun e w' => e = .returned (.bool true) ∧ ∃ n, n ≤ 1 ∧ J n w')
    (hstep : ∀ (n : Nat) (W : World) (R : OpR), n ≤ 1400000000001 → J n W → -9223372036854775808 ≤ R.a → R.a ≤ 9223372036854775807 → lo ≤ R.k → R.k ≤ hi → Calls Tryz.prog 9 #[.pointer (some ⟨w.heap.size + 1, 0, none⟩), .agg (opC R.k R.a R.b R.c R.K R.M R.O R.S R.s R.lv)] W fun e w' => e = .returned (.bool true) ∧ ∃ n', n' ≤ n + 1 ∧ J n' w') :
    Calls Tryz.prog 7 #[v, .agg fo, .int .i64 lo, .int .i64 hi] w fun e w' => e = .returned (.bool true) ∧ Below w.heap.size w w' := by
  obtain ⟨ao, cap, rfl, hcap, hops⟩ := hat
  have HO := hide hops
  clear hops
  subst hfo
  have hop : (w.alloc (.cells (opC kf af bf cf Kf Mf Of Sf sf lf) 29)).heap[w.heap.size]? = some (.cells (opC kf af bf cf Kf Mf Of Sf sf lf) 29 (0, 0)) := heap_alloc_new w _
  go_enter Tryz.func7, Tryz.ntmps7
  go_wp2_with fail
  refine hfirst.mono ?_
  rintro e w1 ⟨rfl, n1, hn1, hJ1⟩
  clear hop hfirst
  go_wp2_with fail
  go_loopw [10, 11] (fun ov iv wr => ∃ (n m : Nat), n ≤ l.length ∧ ov = .bool true ∧ iv = .int .i64 (n : Int) ∧ J m wr ∧ m ≤ n + 1) (fun _ iv _ => l.length - (intOf iv).toNat)
  case atStart => exact ⟨0, n1, Nat.zero_le _, rfl, rfl, hJ1, by omega⟩
  case round =>
    clear hJ1 hn1
    obtain ⟨n, m, hn, rfl, rfl, hJ, hm⟩ := hrel
    by_cases hlt : n < l.length
    · obtain ⟨q, o, rfl, hq, hr, a1, a2⟩ := HO.out n hlt
      have hr1 := range_below hr (hbel m wr hJ) hq
      have hk0 := hr1 0 (.int .i64 (l.getD n OpR.none).k) rfl
      rw [Nat.add_zero] at hk0
      have hii : (Tryz.prog.info? 29).map (·.size) = some (l.getD n OpR.none).cells.length := Tryz.sizeOp
      have i1 : (0 : Int) ≤ (n : Int) := by omega
      have i2 : (n : Int) < (l.length : Int) := by omega
      have hce : (l.getD n OpR.none).cells.toArray = opC (l.getD n OpR.none).k (l.getD n OpR.none).a (l.getD n OpR.none).b (l.getD n OpR.none).c (l.getD n OpR.none).K (l.getD n OpR.none).M (l.getD n OpR.none).O (l.getD n OpR.none).S (l.getD n OpR.none).s (l.getD n OpR.none).lv := rfl
      clear hr
      generalize l.getD n OpR.none = R at *
      by_cases k1 : lo ≤ R.k
      · have d1 : decide (lo ≤ R.k) = true := decide_eq_true k1
        by_cases k2 : R.k ≤ hi
        · have hst := hstep m wr R (by omega) hJ a1 a2 k1 k2
          rw [← hce] at hst
          have Hce := hide hce
          clear hce
          generalize hcs : R.cells = cs at *
          have Hcs := hide hcs
          clear hcs
          go_wp2_with (refine wpList_load_mid rfl 29 (.tmp 43) rfl q (o + n * 10) rfl cs _ hr1 Tryz.underlying29 rfl hii ?_)
          refine hst.mono ?_
          rintro e w2 ⟨rfl, n', h2, h3⟩
          clear hst hr1 hk0 hii hJ
          go_wp2_with fail
          go_roundw
          case rel => exact ⟨n + 1, n', by omega, rfl, by go_num, h3, by omega⟩
          case measure => simp [intOf]; omega
        · have d2 : decide (R.k ≤ hi) = false := decide_eq_false k2
          clear hce hii hr1
          go_wp2_with fail
          go_roundw
          case rel => exact ⟨n + 1, m, by omega, rfl, by go_num, hJ, by omega⟩
          case measure => simp [intOf]; omega
      · have d1 : decide (lo ≤ R.k) = false := decide_eq_false k1
        clear hce hii hr1
        go_wp2_with fail
        go_roundw
        case rel => exact ⟨n + 1, m, by omega, rfl, by go_num, hJ, by omega⟩
        case measure => simp [intOf]; omega
    · go_wp2_with fail
      go_ret
      exact ⟨rfl, hbel m _ hJ⟩

end Go.Proofs.YtnjaofkieajnlaaGreat
