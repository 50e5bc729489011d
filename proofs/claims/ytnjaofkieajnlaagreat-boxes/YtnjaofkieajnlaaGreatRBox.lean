/- The document's own boxes in memory; Get; what Put makes of them. -/
import Derived.Test.YtnjaofkieajnlaaGreatBoxWalk
import Derived.Test.YtnjaofkieajnlaaGreatPBox9
import Derived.Test.YtnjaofkieajnlaaGreatWord
namespace Go.Proofs.YtnjaofkieajnlaaGreat
open Go.RowKit

set_option maxRecDepth 100000 in
set_option maxHeartbeats 8000000 in
theorem rget_any (r K M O S z i : Nat) (av pv : Value) (ps : List (Nat × ByteArray)) (w : World) (hK : 1 ≤ K ∧ K ≤ 20) (hM : 1 ≤ M ∧ M ≤ 20) (hO : 1 ≤ O ∧ O ≤ M) (hS : S ≤ 65535) (hz : 0 < z ∧ z ≤ 1000)
    (hbox : w.heap[r]? = some (rboxB K M O S z av pv)) (hA : NumsAt w av (ps.map Prod.fst)) (hP : TextsAt w pv (ps.map Prod.snd)) (hps : ps.length ≤ 900) (hin : ∀ x ∈ ps, x.1 < K + M ∧ x.2.size = z) (hi : i < 40) :
    Calls Tryz.prog 31 #[.pointer (some ⟨r, 0, none⟩), .int .i64 (i : Int)] w fun e w' => e = .returned (.tuple #[.string (told (boxFacts K M O S z ps) (2 ^ i) z).1, .bool (told (boxFacts K M O S z ps) (2 ^ i) z).2]) ∧ Below w.heap.size w w' := by
  obtain ⟨c0, c1, c2, c3, c4, c5, c6, hr⟩ := rbox_cells hbox
  have hsz := boxFacts_sized K M O S z ps (fun p hp => (hin p hp).2)
  have hlo := boxFacts_low K M O S z 40 ps (by omega) (fun p hp => (hin p hp).1)
  have hlen : (boxFacts K M O S z ps).length ≤ 1000 := by unfold boxFacts rowFacts putFacts; simp; omega
  have hfacts := fun w hb hA hP => facts_any r K M O S z av pv ps w hK hM hO hS hz hb hA hP hps (fun x hx => by have := (hin x hx).1; omega)
  have htold := fun v w hat => told_any v (boxFacts K M O S z ps) (2 ^ i) z w hlen hz hsz hlo (pow_lt i hi) hat
  obtain ⟨s1, s2⟩ := shl_small i hi
  generalize boxFacts K M O S z ps = F at *
  generalize told F (2 ^ i) z = td at *
  have Hs2 := hide s2
  clear c0 c1 c2 c3 c5 c6 hsz hlo hlen s1 s2
  go_enter Tryz.func31, Tryz.ntmps31
  go_wp2_with fail
  go_region_held3 (fun w' => w'.cell? ⟨r, 4, none⟩ = some (.int .i64 (z : Int)))
    (first | (exact c4) | (exact j0) | (exact k0) | go_keep)
    (first
      | (go_at_call 57; refine (hfacts w.drew hbox hA hP).mono ?_; rintro e w1 ⟨v1, rfl, hown, hb1⟩; have j0 := (hb1.cell (p := ⟨r, 4, none⟩) hr).trans c4)
      | (go_at_call 56; rw [Hs2.out]; refine (htold _ _ (owns_facts hown)).mono ?_; rintro e w2 ⟨rfl, hb2⟩; have k0 := (hb2.cell (p := ⟨r, 4, none⟩) (Nat.lt_of_lt_of_le hr hb1.size)).trans j0))
  all_goals
    have hb0 : Below w.heap.size w w1 := (Below.refl w.heap.size w).drew.trans hb1
    have hbf : Below w.heap.size w w2 := hb0.trans (hb2.mono hb0.size)
    clear hb0
    clear hb1 hb2 hown hfacts htold hbox hA hP
    go_wp2_with fail
    go_ret2
    exact ⟨rfl, hbf⟩

end Go.Proofs.YtnjaofkieajnlaaGreat

namespace Go.Proofs.YtnjaofkieajnlaaGreat
open Go.RowKit

/-- A box of the document's: its block, and the two lists that it owns. -/
structure RBoxAt (w : World) (r K M O S z : Nat) (av pv : Value) (ps : List (Nat × ByteArray)) : Prop where
  box : w.heap[r]? = some (rboxB K M O S z av pv)
  oa : w.ownsRow 0 3 1 av ps.length (numsV (ps.map Prod.fst))
  op : w.ownsRow 0 9 1 pv ps.length (textV (ps.map Prod.snd))

/-- The blocks of such a box. -/
def fpR (r : Nat) (av pv : Value) (k : Nat) : Prop := k = r ∨ av.ownBlock = some k ∨ pv.ownBlock = some k

theorem owns_nums {w : World} {base : Nat} {v : Value} {l : List Nat} {n : Nat} (h : w.ownsRow base 3 1 v n (numsV l)) (hn : n = l.length) : NumsAt w v l := by
  subst hn
  rcases owns_cells h with ⟨rfl, rfl⟩ | ⟨g, cap, rfl, h1, hcell⟩
  · exact ⟨none, 0, rfl, Nat.le_refl _, fun k hk => by simp at hk⟩
  · refine ⟨_, cap, rfl, h1, fun k hk => ⟨g, 0, rfl, (h.lt g rfl).2, ?_⟩⟩
    rw [Nat.zero_add]; exact hcell k hk

/-- Blocks of two types are two. -/
theorem owns_other {w : World} {base : Nat} {e t : TypeId} {size n k : Nat} {v : Value} {xs : List Value} {cs : Array Value} {fr : Nat × Nat} (h : w.ownsRow base e size v n xs) (hb : w.heap[k]? = some (.cells cs t fr)) (hne : e ≠ t) : v.ownBlock ≠ some k := by
  intro hk
  obtain ⟨cur, hcur⟩ := owns_block h hk
  rw [hb] at hcur
  simp at hcur
  exact hne hcur.2.1.symm

theorem owns_parted {w : World} {b1 b2 : Nat} {e t : TypeId} {s1 s2 n m k : Nat} {v u : Value} {xs ys : List Value} (h : w.ownsRow b1 e s1 v n xs) (h2 : w.ownsRow b2 t s2 u m ys) (hne : e ≠ t) (hk : v.ownBlock = some k) : u.ownBlock ≠ some k := by
  obtain ⟨cur, hcur⟩ := owns_block h hk
  exact owns_other h2 hcur (fun e => hne e.symm)

namespace RBoxAt
variable {w w' w2 : World} {r K M O S z : Nat} {av pv : Value} {ps : List (Nat × ByteArray)}

theorem lt (h : RBoxAt w r K M O S z av pv ps) : r < w.heap.size := (Array.getElem?_eq_some_iff.1 h.box).1

theorem fp_lt (h : RBoxAt w r K M O S z av pv ps) {k : Nat} (hk : fpR r av pv k) : k < w.heap.size := by
  rcases hk with rfl | hk | hk
  · exact h.lt
  · exact (h.oa.lt k hk).2
  · exact (h.op.lt k hk).2

theorem blocks (h : RBoxAt w r K M O S z av pv ps) (hb : ∀ k, fpR r av pv k → w'.heap[k]? = w.heap[k]?) : RBoxAt w' r K M O S z av pv ps :=
  ⟨by rw [hb r (Or.inl rfl)]; exact h.box, owns_of_block h.oa (fun k hk => hb k (Or.inr (Or.inl hk))), owns_of_block h.op (fun k hk => hb k (Or.inr (Or.inr hk)))⟩

theorem on (h : RBoxAt w r K M O S z av pv ps) {m : Nat} (hm : w.heap.size ≤ m) (hb : Below m w w') : RBoxAt w' r K M O S z av pv ps :=
  h.blocks (fun k hk => hb.block k (Nat.lt_of_lt_of_le (h.fp_lt hk) hm))

theorem chg {T : Nat → Prop} (h : RBoxAt w r K M O S z av pv ps) (hc : Chg T w w') (hn : ∀ k, fpR r av pv k → ¬ T k) : RBoxAt w' r K M O S z av pv ps :=
  h.blocks (fun k hk => hc.block k (h.fp_lt hk) (hn k hk))

theorem nums (h : RBoxAt w r K M O S z av pv ps) : NumsAt w av (ps.map Prod.fst) := owns_nums h.oa (by simp)
theorem texts (h : RBoxAt w r K M O S z av pv ps) : TextsAt w pv (ps.map Prod.snd) := owns_texts h.op (by simp)

end RBoxAt

/-- A number is appended to the first list, and stored. -/
theorem rpush_at {w w2 : World} {r K M O S z g n cap : Nat} {av pv : Value} {ps : List (Nat × ByteArray)} {xs : List Value} (h : RBoxAt w r K M O S z av pv ps) (hg : w.grownBy w2 av.ownBlock) (hown : w2.ownsRow 0 3 1 (.slice (some ⟨g, 0, none⟩) n cap) n xs) :
    (w2.setCell ⟨r, 5, none⟩ (.slice (some ⟨g, 0, none⟩) n cap)).heap[r]? = some (rboxB K M O S z (.slice (some ⟨g, 0, none⟩) n cap) pv) ∧ (w2.setCell ⟨r, 5, none⟩ (.slice (some ⟨g, 0, none⟩) n cap)).ownsRow 0 3 1 (.slice (some ⟨g, 0, none⟩) n cap) n xs ∧
      (w2.setCell ⟨r, 5, none⟩ (.slice (some ⟨g, 0, none⟩) n cap)).ownsRow 0 9 1 pv ps.length (textV (ps.map Prod.snd)) ∧ Chg (fpR r av pv) w (w2.setCell ⟨r, 5, none⟩ (.slice (some ⟨g, 0, none⟩) n cap)) := by
  have hra := owns_other h.oa h.box (by decide)
  have hrp := owns_other h.op h.box (by decide)
  have hr2 : w2.heap[r]? = some (rboxB K M O S z av pv) := by rw [hg.block r h.lt (fun e => hra e.symm)]; exact h.box
  have hrg := owns_other hown hr2 (by decide)
  refine ⟨?_, ?_, ?_, ?_⟩
  · rw [heap_setCell_same _ _ _ _ _ _ hr2]; rfl
  · exact owns_of_block hown (fun k hk => heap_setCell_other _ _ _ _ (by rintro rfl; exact hrg hk))
  · refine owns_of_block h.op (fun k hk => ?_)
    rw [heap_setCell_other _ _ _ _ (by rintro rfl; exact hrp hk)]
    exact hg.block k (h.op.lt k hk).2 (fun e => owns_parted h.op h.oa (by decide) hk e.symm)
  · exact ((Chg.refl (fpR r av pv) w).grown hg (fun k hk => Or.inr (Or.inr (Or.inl hk)))).setCell (a := ⟨r, 5, none⟩) (Or.inr (Or.inl rfl)) _

/-- A text is appended to the second list, and stored. -/
theorem rpush_piece {w w2 : World} {r K M O S z g n n' m cap : Nat} {av pv : Value} {xs bs ys : List Value} (hbox : w.heap[r]? = some (rboxB K M O S z av pv)) (hoa : w.ownsRow 0 3 1 av m bs) (hop : w.ownsRow 0 9 1 pv n ys) (hg : w.grownBy w2 pv.ownBlock) (hown : w2.ownsRow 0 9 1 (.slice (some ⟨g, 0, none⟩) n' cap) n' xs) :
    (w2.setCell ⟨r, 6, none⟩ (.slice (some ⟨g, 0, none⟩) n' cap)).heap[r]? = some (rboxB K M O S z av (.slice (some ⟨g, 0, none⟩) n' cap)) ∧ (w2.setCell ⟨r, 6, none⟩ (.slice (some ⟨g, 0, none⟩) n' cap)).ownsRow 0 3 1 av m bs ∧
      (w2.setCell ⟨r, 6, none⟩ (.slice (some ⟨g, 0, none⟩) n' cap)).ownsRow 0 9 1 (.slice (some ⟨g, 0, none⟩) n' cap) n' xs ∧ Chg (fun k => k = r ∨ pv.ownBlock = some k) w (w2.setCell ⟨r, 6, none⟩ (.slice (some ⟨g, 0, none⟩) n' cap)) := by
  have hlt : r < w.heap.size := (Array.getElem?_eq_some_iff.1 hbox).1
  have hra := owns_other hoa hbox (by decide)
  have hrp := owns_other hop hbox (by decide)
  have hr2 : w2.heap[r]? = some (rboxB K M O S z av pv) := by rw [hg.block r hlt (fun e => hrp e.symm)]; exact hbox
  have hrg := owns_other hown hr2 (by decide)
  refine ⟨?_, ?_, ?_, ?_⟩
  · rw [heap_setCell_same _ _ _ _ _ _ hr2]; rfl
  · refine owns_of_block hoa (fun k hk => ?_)
    rw [heap_setCell_other _ _ _ _ (by rintro rfl; exact hra hk)]
    exact hg.block k (hoa.lt k hk).2 (fun e => owns_parted hoa hop (by decide) hk e.symm)
  · exact owns_of_block hown (fun k hk => heap_setCell_other _ _ _ _ (by rintro rfl; exact hrg hk))
  · exact ((Chg.refl (fun k => k = r ∨ pv.ownBlock = some k) w).grown hg (fun k hk => Or.inr (Or.inr hk))).setCell (a := ⟨r, 6, none⟩) (Or.inr (Or.inl rfl)) _

end Go.Proofs.YtnjaofkieajnlaaGreat
