/- Texts of the proof, part 19. -/
import Derived.Test.YtnjaofkieajnlaaGreatTakenG0
import Derived.Test.YtnjaofkieajnlaaGreatTakenG14
import Derived.Test.YtnjaofkieajnlaaGreatTakenG16
import Derived.Test.YtnjaofkieajnlaaGreatTakenG17
import Derived.Test.YtnjaofkieajnlaaGreatTakenG3
import Derived.Test.YtnjaofkieajnlaaGreatTakenG8

/- The document's own Hear: further packets of which all is told. -/
namespace Go.Proofs.YtnjaofkieajnlaaGreat
open Go.RowKit

set_option maxRecDepth 100000 in
set_option maxHeartbeats 4000000 in
theorem rhear_told (c r K M O S z i : Nat) (av pv : Value) (ps : List (Nat × ByteArray)) (p q : ByteArray) (w : World) (hrd : ReadSays p K M O S z i q) (hc : w.heap[c]? = some (catB (some ⟨r, 0, none⟩))) (hbox : RBoxAt w r K M O S z av pv ps) (hps : ps.length ≤ 900) (hin : ∀ x ∈ ps, x.1 < K + M ∧ x.2.size = z) (hcb : ¬ fpR r av pv c) (hK : 1 ≤ K ∧ K ≤ 20) (hM : 1 ≤ M ∧ M ≤ 20) (hO : 1 ≤ O ∧ O ≤ M) (hS : S ≤ 65535) (hz : 0 < z ∧ z ≤ 1000) (hi : i < K + M) (hq : q.size = z) (htd : (told (boxFacts K M O S z ps) (2 ^ i) z).2 = true) (hsay : (told (boxFacts K M O S z ps) (2 ^ i) z).1 = q) :
    Calls Tryz.prog 33 #[.pointer (some ⟨c, 0, none⟩), .string p] w fun e w' => e = .returned (.int .i64 0) ∧ w'.heap[c]? = some (catB (some ⟨r, 0, none⟩)) ∧ RBoxAt w' r K M O S z av pv ps ∧ Chg (fun k => k = c) w w' := by
  have hput := fun W hb => rput_told r K M O S z i q av pv ps W hK hM hO hS hz hb hps hin hi hq htd
  rw [if_pos hsay] at hput
  clear htd hin hsay
  go_enter Tryz.func33, Tryz.ntmps33
  go_wp2_with fail
  refine (hrd _).mono ?_
  rintro e w1 ⟨rfl, hb1⟩
  have hc1 := block_on hc hb1
  have hcl : c < w.heap.size := (Array.getElem?_eq_some_iff.1 hc).1
  go_upto_region 5 with fail
  have hbW : Below w1.heap.size w1 ((w1.alloc (specB K M O S)).alloc (rboxB K M O S z (.slice none 0 0) (.slice none 0 0))) := ((Below.refl _ _).alloc (Nat.le_refl _) _).alloc (by simp) _
  have hcW := block_on hc1 hbW
  have hsW : ((w1.alloc (specB K M O S)).alloc (rboxB K M O S z (.slice none 0 0) (.slice none 0 0))).heap[w1.heap.size]? = some (specB K M O S) := block_on (heap_alloc_new w1 _) ((Below.refl _ _).alloc (Nat.le_refl _) _)
  have hww : Below w.heap.size w ((w1.alloc (specB K M O S)).alloc (rboxB K M O S z (.slice none 0 0) (.slice none 0 0))) := hb1.trans (hbW.mono hb1.size)
  have hbx : RBoxAt ((w1.alloc (specB K M O S)).alloc (rboxB K M O S z (.slice none 0 0) (.slice none 0 0))) r K M O S z av pv ps := ⟨block_on hbox.box hww, owns_below hbox.oa hww, owns_below hbox.op hww⟩
  generalize (w1.alloc (specB K M O S)).alloc (rboxB K M O S z (.slice none 0 0) (.slice none 0 0)) = W at *
  generalize w1.heap.size + 1 = r1 at *
  generalize w1.heap.size = h1 at *
  clear hbW hc1 hc hb1 hbox
  have c0 := cat_cell hcW
  obtain ⟨d0, d1, d2, d3, d4, d5, d6, hr⟩ := rbox_cells hbx.box
  obtain ⟨s0, s1, s2, s3⟩ := spec_cells hsW
  clear d5 d6
  go_wp2_with fail
  go_quiet (fail)
  have hcV : (W.drewN nq).heap[c]? = some (catB (some ⟨r, 0, none⟩)) := hcW
  have hbV : RBoxAt (W.drewN nq) r K M O S z av pv ps := ⟨hbx.box, hbx.oa, hbx.op⟩
  have hwV : Below w.heap.size w (W.drewN nq) := hww.trans ⟨rfl, rfl, rfl, Nat.le_refl _, fun _ _ => rfl⟩
  generalize W.drewN nq = V at *
  clear hcW hbx hww c0 d0 d1 d2 d3 d4 s0 s1 s2 s3 hsW hr
  have c0 := cat_cell hcV
  go_wp2_with fail
  refine (hput _ hbV).mono ?_
  rintro e w2 ⟨rfl, hb2⟩
  have hc2 := block_on hcV hb2
  have c2 := cat_cell hc2
  have x2 := found_frozen hc2 0
  have hcn : ∀ k, fpR r av pv k → k ≠ c := fun k hk e => by subst e; exact hcb hk
  have hbw : Below w.heap.size w w2 := hwV.trans (hb2.mono hwV.size)
  have hbf : RBoxAt (w2.setCell ⟨c, 0, none⟩ (.pointer (some ⟨r, 0, none⟩))) r K M O S z av pv ps :=
    ⟨by rw [Below.heap_setCell _ _ _ _ (hcn r (Or.inl rfl))]; exact block_on hbV.box hb2,
      owns_of_block (owns_below hbV.oa hb2) (fun k hk => Below.heap_setCell _ _ _ _ (hcn k (Or.inr (Or.inl hk)))),
      owns_of_block (owns_below hbV.op hb2) (fun k hk => Below.heap_setCell _ _ _ _ (hcn k (Or.inr (Or.inr hk))))⟩
  have hcf := (Chg.of_below hbw (fun k => k = c)).setCell (a := ⟨c, 0, none⟩) (Or.inr rfl) (.pointer (some ⟨r, 0, none⟩))
  have hhf := heap_setCell_same w2 c 0 _ _ (.pointer (some ⟨r, 0, none⟩)) hc2
  have HF := hide (And.intro hhf (And.intro hbf hcf))
  clear hhf hbf hcf hbw hwV hb2 hcn hput hbV hcV c0
  go_wp2_with fail
  go_ret
  exact ⟨rfl, HF.out.1, HF.out.2.1, HF.out.2.2⟩

set_option maxRecDepth 100000 in
set_option maxHeartbeats 4000000 in
theorem rhear_contrary (c r K M O S z i : Nat) (av pv : Value) (ps : List (Nat × ByteArray)) (p q : ByteArray) (w : World) (hrd : ReadSays p K M O S z i q) (hc : w.heap[c]? = some (catB (some ⟨r, 0, none⟩))) (hbox : RBoxAt w r K M O S z av pv ps) (hps : ps.length ≤ 900) (hin : ∀ x ∈ ps, x.1 < K + M ∧ x.2.size = z) (hK : 1 ≤ K ∧ K ≤ 20) (hM : 1 ≤ M ∧ M ≤ 20) (hO : 1 ≤ O ∧ O ≤ M) (hS : S ≤ 65535) (hz : 0 < z ∧ z ≤ 1000) (hi : i < K + M) (hq : q.size = z) (htd : (told (boxFacts K M O S z ps) (2 ^ i) z).2 = true) (hsay : (told (boxFacts K M O S z ps) (2 ^ i) z).1 ≠ q) :
    Calls Tryz.prog 33 #[.pointer (some ⟨c, 0, none⟩), .string p] w fun e w' => e = .returned (.int .i64 4) ∧ Below w.heap.size w w' := by
  have hput := fun W hb => rput_told r K M O S z i q av pv ps W hK hM hO hS hz hb hps hin hi hq htd
  rw [if_neg hsay] at hput
  clear htd hin hsay
  go_enter Tryz.func33, Tryz.ntmps33
  go_wp2_with fail
  refine (hrd _).mono ?_
  rintro e w1 ⟨rfl, hb1⟩
  have hc1 := block_on hc hb1
  have hcl : c < w.heap.size := (Array.getElem?_eq_some_iff.1 hc).1
  go_upto_region 5 with fail
  have hbW : Below w1.heap.size w1 ((w1.alloc (specB K M O S)).alloc (rboxB K M O S z (.slice none 0 0) (.slice none 0 0))) := ((Below.refl _ _).alloc (Nat.le_refl _) _).alloc (by simp) _
  have hcW := block_on hc1 hbW
  have hsW : ((w1.alloc (specB K M O S)).alloc (rboxB K M O S z (.slice none 0 0) (.slice none 0 0))).heap[w1.heap.size]? = some (specB K M O S) := block_on (heap_alloc_new w1 _) ((Below.refl _ _).alloc (Nat.le_refl _) _)
  have hww : Below w.heap.size w ((w1.alloc (specB K M O S)).alloc (rboxB K M O S z (.slice none 0 0) (.slice none 0 0))) := hb1.trans (hbW.mono hb1.size)
  have hbx : RBoxAt ((w1.alloc (specB K M O S)).alloc (rboxB K M O S z (.slice none 0 0) (.slice none 0 0))) r K M O S z av pv ps := ⟨block_on hbox.box hww, owns_below hbox.oa hww, owns_below hbox.op hww⟩
  generalize (w1.alloc (specB K M O S)).alloc (rboxB K M O S z (.slice none 0 0) (.slice none 0 0)) = W at *
  generalize w1.heap.size + 1 = r1 at *
  generalize w1.heap.size = h1 at *
  clear hbW hc1 hc hb1 hbox
  have c0 := cat_cell hcW
  obtain ⟨d0, d1, d2, d3, d4, d5, d6, hr⟩ := rbox_cells hbx.box
  obtain ⟨s0, s1, s2, s3⟩ := spec_cells hsW
  clear d5 d6
  go_wp2_with fail
  go_quiet (fail)
  have hcV : (W.drewN nq).heap[c]? = some (catB (some ⟨r, 0, none⟩)) := hcW
  have hbV : RBoxAt (W.drewN nq) r K M O S z av pv ps := ⟨hbx.box, hbx.oa, hbx.op⟩
  have hwV : Below w.heap.size w (W.drewN nq) := hww.trans ⟨rfl, rfl, rfl, Nat.le_refl _, fun _ _ => rfl⟩
  generalize W.drewN nq = V at *
  clear hcW hbx hww c0 d0 d1 d2 d3 d4 s0 s1 s2 s3 hsW hr
  have c0 := cat_cell hcV
  go_wp2_with fail
  refine (hput _ hbV).mono ?_
  rintro e w2 ⟨rfl, hb2⟩
  have hbw : Below w.heap.size w w2 := hwV.trans (hb2.mono hwV.size)
  clear hwV hb2 hput hbV hcV c0
  go_wp2_with fail
  go_ret
  exact ⟨rfl, hbw⟩

end Go.Proofs.YtnjaofkieajnlaaGreat

/- The document's own Hear: packets of another object. -/
namespace Go.Proofs.YtnjaofkieajnlaaGreat
open Go.RowKit

set_option maxRecDepth 100000 in
set_option maxHeartbeats 4000000 in
theorem rhear_other (c r K M O S z i K' M' O' S' z' : Nat) (av pv : Value) (p q : ByteArray) (w : World) (hrd : ReadSays p K M O S z i q) (hc : w.heap[c]? = some (catB (some ⟨r, 0, none⟩))) (hbox : w.heap[r]? = some (rboxB K' M' O' S' z' av pv)) (hno : ¬ (K' = K ∧ M' = M ∧ O' = O ∧ S' = S ∧ z' = z)) :
    Calls Tryz.prog 33 #[.pointer (some ⟨c, 0, none⟩), .string p] w fun e w' => e = .returned (.int .i64 7) ∧ Below w.heap.size w w' := by
  go_enter Tryz.func33, Tryz.ntmps33
  go_wp2_with fail
  refine (hrd _).mono ?_
  rintro e w1 ⟨rfl, hb1⟩
  have hc1 := block_on hc hb1
  go_upto_region 5 with fail
  have hbW : Below w1.heap.size w1 ((w1.alloc (specB K M O S)).alloc (rboxB K M O S z (.slice none 0 0) (.slice none 0 0))) := ((Below.refl _ _).alloc (Nat.le_refl _) _).alloc (by simp) _
  have hcW := block_on hc1 hbW
  have hsW : ((w1.alloc (specB K M O S)).alloc (rboxB K M O S z (.slice none 0 0) (.slice none 0 0))).heap[w1.heap.size]? = some (specB K M O S) := block_on (heap_alloc_new w1 _) ((Below.refl _ _).alloc (Nat.le_refl _) _)
  have hww : Below w.heap.size w ((w1.alloc (specB K M O S)).alloc (rboxB K M O S z (.slice none 0 0) (.slice none 0 0))) := hb1.trans (hbW.mono hb1.size)
  have hbx := block_on hbox hww
  generalize (w1.alloc (specB K M O S)).alloc (rboxB K M O S z (.slice none 0 0) (.slice none 0 0)) = W at *
  generalize w1.heap.size + 1 = r1 at *
  generalize w1.heap.size = h1 at *
  clear hbW hc1 hc hb1 hbox
  have c0 := cat_cell hcW
  obtain ⟨d0, d1, d2, d3, d4, d5, d6, hr⟩ := rbox_cells hbx
  obtain ⟨s0, s1, s2, s3⟩ := spec_cells hsW
  have hbf : ∀ n, Below w.heap.size w (W.drewN n) := fun n => hww.trans ⟨rfl, rfl, rfl, Nat.le_refl _, fun _ _ => rfl⟩
  clear d5 d6 hww
  by_cases e1 : K' = K ∧ M' = M ∧ O' = O ∧ S' = S
  · have hzz : ((z' : Int) != (z : Int)) = true := by simp; intro e; exact hno ⟨e1.1, e1.2.1, e1.2.2.1, e1.2.2.2, by omega⟩
    obtain ⟨rfl, rfl, rfl, rfl⟩ := e1
    clear hno
    go_wp2_with fail
    go_quiet (fail)
    go_wp2_with fail
    go_ret
    exact ⟨rfl, hbf _⟩
  · have hor : ((K' : Int) == (K : Int)) = false ∨ (K' = K ∧ ((M' : Int) == (M : Int)) = false) ∨ (K' = K ∧ M' = M ∧ ((O' : Int) == (O : Int)) = false) ∨ (K' = K ∧ M' = M ∧ O' = O ∧ ((S' : Int) == (S : Int)) = false) := by
      simp only [beq_eq_false_iff_ne, ne_eq, Int.natCast_inj]
      omega
    clear hno e1
    rcases hor with h | ⟨rfl, h⟩ | ⟨rfl, rfl, h⟩ | ⟨rfl, rfl, rfl, h⟩
    all_goals
      go_wp2_with fail
      go_quiet (fail)
      go_wp2_with fail
      go_ret
      exact ⟨rfl, hbf _⟩

end Go.Proofs.YtnjaofkieajnlaaGreat

/- A catcher as plain mathematics: what it has taken, and what it answers; the program's catcher and the document's both go by it. -/
namespace Go.Proofs.YtnjaofkieajnlaaGreat
open Go.RowKit

/-- What a catcher has taken. -/
structure CS where
  tk : Bool
  K : Nat
  M : Nat
  O : Nat
  S : Nat
  z : Nat
  kn : Kn
  ps : List (Nat × ByteArray)

def CS.zero : CS := ⟨false, 0, 0, 0, 0, 0, kn0, []⟩

structure CSok (s : CS) : Prop where
  spec : s.tk = true → SpecOk s.K s.M s.O s.S s.z
  rel : s.tk = true → Rel s.K s.M s.O s.S s.z s.kn s.ps
  cnt : s.tk = true → s.ps.length + openK s.kn s.K = s.K
  none : s.tk = false → s = CS.zero

theorem CSok.new : CSok CS.zero := ⟨fun h => (by cases h), fun h => (by cases h), fun h => (by cases h), fun _ => rfl⟩

def packetB (p : ByteArray) : Bool := decide (10 ≤ p.size ∧ p.size ≤ 25 ∧ byteAt p 0 = 82 ∧ mayB (rK p) (rM p) (rO p) (rS p) = true ∧ rI p < rK p + rM p ∧ p.size = rZ p + 9 ∧ addTo p p.size = 0)

theorem packetB_iff (p : ByteArray) : packetB p = true ↔ PacketOk p := decide_eq_true_iff

def sameB (s : CS) (t : ByteArray) : Bool := decide (rK t = s.K ∧ rM t = s.M ∧ rO t = s.O ∧ rS t = s.S ∧ rZ t = s.z)

theorem sameB_iff (s : CS) (t : ByteArray) : sameB s t = true ↔ (rK t = s.K ∧ rM t = s.M ∧ rO t = s.O ∧ rS t = s.S ∧ rZ t = s.z) := decide_eq_true_iff

/-- What is left of a packet's piece. -/
def hearL (s : CS) (t : ByteArray) : Fct := left s.kn (ofs (rK t) (rM t) (rO t) (rS t) (rI t)) (rQ t)

/-- What Hear answers. -/
def hearE (s : CS) (t : ByteArray) : Int := if packetB t = false then 6 else if s.tk = true ∧ sameB s t = false then 7 else putE (hearL s t) (rZ t)

/-- What a catcher has taken behind it. -/
def hearS (s : CS) (t : ByteArray) : CS := if hearE s t = 0 then ⟨true, rK t, rM t, rO t, rS t, rZ t, putK s.kn (ofs (rK t) (rM t) (rO t) (rS t) (rI t)) (rQ t), if (hearL s t).1 = 0 then s.ps else s.ps ++ [(rI t, rQ t)]⟩ else s

/-- What is told of a piece of data. -/
def csG (s : CS) (i : Nat) : ByteArray × Bool := ((left s.kn (ofs s.K s.M s.O s.S i) (zeroB s.z)).2, decide ((left s.kn (ofs s.K s.M s.O s.S i) (zeroB s.z)).1 = 0))

def csAll (s : CS) : Bool := (List.range s.K).all (fun j => (csG s j).2)

theorem csAll_iff (s : CS) : csAll s = true ↔ ∀ j, j < s.K → (csG s j).2 = true := by
  unfold csAll
  rw [List.all_eq_true]
  exact ⟨fun h j hj => h j (List.mem_range.2 hj), fun h j hj => h j (List.mem_range.1 hj)⟩

/-- What Object answers. -/
def objE (s : CS) : ByteArray × Int := if s.tk = true ∧ csAll s = true then (if objOk (joinTo (csG s) s.K) = true then (objText (joinTo (csG s) s.K), 0) else (⟨#[]⟩, 8)) else (⟨#[]⟩, 5)

/-- What Wants answers. -/
def wantE (s : CS) : Int := if s.tk = true then (openK s.kn s.K : Int) else -1

theorem hearE_no {s : CS} {t : ByteArray} (h : ¬ PacketOk t) : hearE s t = 6 ∧ hearS s t = s := by
  have hb : packetB t = false := by
    cases hp : packetB t with
    | false => rfl
    | true => exact absurd ((packetB_iff t).1 hp) h
  have he : hearE s t = 6 := by unfold hearE; rw [if_pos hb]
  exact ⟨he, by unfold hearS; rw [he, if_neg (by decide)]⟩

theorem hearE_other {s : CS} {t : ByteArray} (h : PacketOk t) (hk : s.tk = true) (hs : ¬ (rK t = s.K ∧ rM t = s.M ∧ rO t = s.O ∧ rS t = s.S ∧ rZ t = s.z)) : hearE s t = 7 ∧ hearS s t = s := by
  have hb : sameB s t = false := by
    cases hp : sameB s t with
    | false => rfl
    | true => exact absurd ((sameB_iff s t).1 hp) hs
  have he : hearE s t = 7 := by unfold hearE; rw [if_neg (by rw [(packetB_iff t).2 h]; simp), if_pos ⟨hk, hb⟩]
  exact ⟨he, by unfold hearS; rw [he, if_neg (by decide)]⟩

theorem hearE_put {s : CS} {t : ByteArray} (h : PacketOk t) (hs : s.tk = true → (rK t = s.K ∧ rM t = s.M ∧ rO t = s.O ∧ rS t = s.S ∧ rZ t = s.z)) : hearE s t = putE (hearL s t) (rZ t) := by
  unfold hearE
  rw [if_neg (by rw [(packetB_iff t).2 h]; simp), if_neg (fun ⟨a, b⟩ => by rw [(sameB_iff s t).2 (hs a)] at b; cases b)]

theorem putE_cases (L : Fct) (z : Nat) : (putE L z = 0 ∧ ¬ (L.1 = 0 ∧ L.2 ≠ zeroB z)) ∨ (putE L z = 4 ∧ L.1 = 0 ∧ L.2 ≠ zeroB z) := by
  unfold putE
  by_cases h : L.1 = 0 ∧ L.2 ≠ zeroB z
  · rw [if_pos h]; exact Or.inr ⟨rfl, h⟩
  · rw [if_neg h]; exact Or.inl ⟨rfl, h⟩

/-- What it has taken, whatever the packet's specification where nothing was taken. -/
theorem CSok.base {s : CS} (h : CSok s) {t : ByteArray} (hs : s.tk = true → (rK t = s.K ∧ rM t = s.M ∧ rO t = s.O ∧ rS t = s.S ∧ rZ t = s.z)) : Rel (rK t) (rM t) (rO t) (rS t) (rZ t) s.kn s.ps ∧ s.ps.length + openK s.kn (rK t) = rK t := by
  cases hk : s.tk with
  | true =>
    obtain ⟨e1, e2, e3, e4, e5⟩ := hs hk
    rw [e1, e2, e3, e4, e5]
    exact ⟨h.rel hk, h.cnt hk⟩
  | false =>
    rw [h.none hk]
    exact ⟨Rel.new _ _ _ _ _, by show 0 + openK kn0 (rK t) = rK t; rw [openK_kn0, Nat.zero_add]⟩

theorem putK_same {kn : Kn} {x : Nat} {p : ByteArray} (h : (left kn x p).1 = 0) : putK kn x p = kn := by unfold putK; rw [if_pos h]

theorem CSok.hear {s : CS} (h : CSok s) (t : ByteArray) : CSok (hearS s t) := by
  by_cases hp : PacketOk t
  · by_cases hs : s.tk = true → (rK t = s.K ∧ rM t = s.M ∧ rO t = s.O ∧ rS t = s.S ∧ rZ t = s.z)
    · obtain ⟨h1, h2, h3, h4, h5, h6, h7⟩ := hp.has
      have he := hearE_put hp hs
      obtain ⟨hr, hc⟩ := h.base hs
      unfold hearS
      rcases putE_cases (hearL s t) (rZ t) with ⟨h0, hn⟩ | ⟨h0, _⟩
      · rw [he, h0, if_pos rfl]
        by_cases hl : (hearL s t).1 = 0
        · rw [if_pos hl, putK_same hl]
          exact ⟨fun _ => ⟨h1, h2, h3, h4, h5⟩, fun _ => hr, fun _ => hc, fun e => by cases e⟩
        · rw [if_neg hl]
          refine ⟨fun _ => ⟨h1, h2, h3, h4, h5⟩, fun _ => hr.push h1.2 h6 h7 hl, fun _ => ?_, fun e => by cases e⟩
          have := openK_put hr.ok h1.2 h7 (ofs_lt (rK t) (rM t) (rO t) (rS t) (rI t)) hl
          show (s.ps ++ [(rI t, rQ t)]).length + openK (putK s.kn (ofs (rK t) (rM t) (rO t) (rS t) (rI t)) (rQ t)) (rK t) = rK t
          rw [List.length_append]
          simp
          omega
      · rw [he, h0, if_neg (by decide)]; exact h
    · have hk : s.tk = true := Classical.byContradiction (fun hk => hs (fun e => absurd e hk))
      rw [(hearE_other hp hk (fun e => hs (fun _ => e))).2]; exact h
  · rw [(hearE_no hp).2]; exact h

theorem ofs_zero : ofs 0 0 0 0 = fun _ => 0 := funext fun j => ofTo_above 0 0 0 0 0 j (by omega)

/-- The program's catcher goes by it. -/
def ProgCat (w : World) (p o Ln : Nat) (tt : TypeId) (hh : Nat → Value) (s : CS) : Prop := CatOff w p o Ln tt hh s.tk s.K s.M s.O s.S s.z (s.K + s.M) (ofs s.K s.M s.O s.S) s.kn

theorem ProgCat.zero (w : World) (p o Ln : Nat) (tt : TypeId) (hh : Nat → Value) : ProgCat w p o Ln tt hh CS.zero = CatNone w p o Ln tt hh := by
  show CatOff w p o Ln tt hh false 0 0 0 0 0 (0 + 0) (ofs 0 0 0 0) kn0 = _
  rw [ofs_zero]

theorem ProgCat.has {w : World} {p o Ln : Nat} {tt : TypeId} {hh : Nat → Value} {s : CS} (h : ProgCat w p o Ln tt hh s) (hk : s.tk = true) : CatHas w p o Ln tt hh s.K s.M s.O s.S s.z s.kn := by
  unfold ProgCat at h
  rwa [hk] at h

theorem ohear_any (p o Ln : Nat) (tt : TypeId) (hh : Nat → Value) (s : CS) (t : ByteArray) (w : World) (hc : ProgCat w p o Ln tt hh s) (hs : CSok s) :
    Calls Tryz.prog 58 #[.pointer (some ⟨p, o, none⟩), .string t] w fun e w' => e = .returned (.int .i64 (hearE s t)) ∧ ProgCat w' p o Ln tt hh (hearS s t) ∧ Chg (fun k => k = p) w w' := by
  by_cases hp : PacketOk t
  · obtain ⟨h1, h2, h3, h4, h5, h6, h7⟩ := hp.has
    cases hk : s.tk with
    | false =>
      have hz := hs.none hk
      subst hz
      have he : hearE CS.zero t = putE (left kn0 (ofs (rK t) (rM t) (rO t) (rS t) (rI t)) (rQ t)) (rZ t) := hearE_put hp (fun e => by cases e)
      rw [ProgCat.zero] at hc
      refine (ohear_first p o Ln tt hh t w hp hc).mono fun e w' ⟨ha, hb, hb2, hcg⟩ => ⟨by rw [he]; exact ha, ?_, hcg⟩
      unfold hearS
      by_cases h0 : hearE CS.zero t = 0
      · rw [if_pos h0]; exact hb (by rw [← he]; exact h0)
      · rw [if_neg h0, ProgCat.zero]; exact hc.on (Nat.le_refl _) (hb2 (by rw [← he]; exact h0))
    | true =>
      have hc2 := hc.has hk
      by_cases hsm : rK t = s.K ∧ rM t = s.M ∧ rO t = s.O ∧ rS t = s.S ∧ rZ t = s.z
      · have he : hearE s t = putE (left s.kn (ofs (rK t) (rM t) (rO t) (rS t) (rI t)) (rQ t)) (rZ t) := hearE_put hp (fun _ => hsm)
        obtain ⟨e1, e2, e3, e4, e5⟩ := hsm
        have hr := (hs.rel hk).ok
        rw [← e1, ← e2, ← e3, ← e4, ← e5] at hc2
        rw [← e1, ← e5] at hr
        refine (ohear_put p o Ln tt hh s.kn t w hp hr hc2).mono fun e w' ⟨ha, hb, hcg⟩ => ⟨by rw [he]; exact ha, ?_, hcg⟩
        unfold hearS
        rcases putE_cases (hearL s t) (rZ t) with ⟨h0, _⟩ | ⟨h0, hl, _⟩
        · rw [if_pos (by rw [he]; exact h0)]; exact hb
        · rw [if_neg (by rw [he]; intro e; rw [show putE (left s.kn (ofs (rK t) (rM t) (rO t) (rS t) (rI t)) (rQ t)) (rZ t) = 4 from h0] at e; cases e)]
          rw [putK_same hl, e1, e2, e3, e4, e5] at hb
          unfold ProgCat
          rw [hk]
          exact hb
      · obtain ⟨he, hst⟩ := hearE_other hp hk hsm
        rw [he, hst]
        have hc3 := hc2
        exact (ohear_other p o Ln tt hh s.K s.M s.O s.S s.z (s.K + s.M) (ofs s.K s.M s.O s.S) s.kn t w hp hc2 hsm).mono fun e w' ⟨ha, hb⟩ => ⟨ha, CatOff.on hc (Nat.le_refl _) hb, Chg.of_below hb _⟩
  · obtain ⟨he, hst⟩ := hearE_no (s := s) hp
    rw [he, hst]
    exact (ohear_no _ t w hp).mono fun e w' ⟨ha, hb⟩ => ⟨ha, CatOff.on hc (Nat.le_refl _) hb, Chg.of_below hb _⟩

theorem owants_any (p o Ln : Nat) (tt : TypeId) (hh : Nat → Value) (s : CS) (w : World) (hc : ProgCat w p o Ln tt hh s) (hs : CSok s) :
    Calls Tryz.prog 60 #[.pointer (some ⟨p, o, none⟩)] w fun e w' => e = .returned (.int .i64 (wantE s)) ∧ w' = w := by
  unfold wantE
  cases hk : s.tk with
  | false =>
    have hz := hs.none hk
    subst hz
    rw [ProgCat.zero] at hc
    exact pwants_none p o Ln tt hh w hc
  | true =>
    exact pwants_has p o Ln tt hh s.K s.M s.O s.S s.z s.kn w (hs.spec hk).hK.2 (hc.has hk)

theorem csG_size {s : CS} (hs : CSok s) (hk : s.tk = true) (i : Nat) : (csG s i).1.size = s.z := (left_ok (hs.rel hk).ok (ofs s.K s.M s.O s.S i) (zeroB s.z) (zeroB_size s.z)).size

theorem oobj_any (p o Ln : Nat) (tt : TypeId) (hh : Nat → Value) (s : CS) (w : World) (hc : ProgCat w p o Ln tt hh s) (hs : CSok s) :
    Calls Tryz.prog 61 #[.pointer (some ⟨p, o, none⟩)] w fun e w' => e = .returned (.tuple #[.string (objE s).1, .int .i64 (objE s).2]) ∧ Below w.heap.size w w' := by
  unfold objE
  cases hk : s.tk with
  | false =>
    have hz := hs.none hk
    subst hz
    rw [ProgCat.zero] at hc
    rw [if_neg (by simp)]
    exact (pobj_none p o Ln tt hh w hc).mono fun e w' ⟨h1, h2⟩ => ⟨h1, by rw [h2]; exact Below.refl _ _⟩
  | true =>
    have sp := hs.spec hk
    refine (pobj_has p o Ln tt hh s.K s.M s.O s.S s.z s.kn (csG s) (joinTo (csG s) s.K) w sp.hK sp.hM.2 (hs.rel hk).ok sp.hz (hc.has hk) (fun i _ => decide_eq_true_iff) (fun _ _ => rfl) (csG_size hs hk) rfl).mono fun e w' ⟨⟨h1, h2, h3⟩, hb⟩ => ⟨?_, hb⟩
    by_cases ha : csAll s = true
    · rw [if_pos ⟨rfl, ha⟩]
      cases ho : objOk (joinTo (csG s) s.K) with
      | true => rw [if_pos rfl]; exact h1 ((csAll_iff s).1 ha) ho
      | false => rw [if_neg (by simp)]; exact h2 ((csAll_iff s).1 ha) ho
    · rw [if_neg (fun h => ha h.2)]
      exact h3 (fun h => ha ((csAll_iff s).2 h))

/-- The document's catcher goes by it. -/
structure DocCat (w : World) (r b : Nat) (av pv : Value) (s : CS) : Prop where
  no : s.tk = false → w.heap[r]? = some (catB none)
  cat : s.tk = true → w.heap[r]? = some (catB (some ⟨b, 0, none⟩))
  box : s.tk = true → RBoxAt w b s.K s.M s.O s.S s.z av pv s.ps
  nil : s.tk = true → s.ps.length = 0 → av = .slice none 0 0 ∧ pv = .slice none 0 0

/-- Its blocks. -/
def fpD (r b : Nat) (av pv : Value) (s : CS) (k : Nat) : Prop := k = r ∨ (s.tk = true ∧ fpR b av pv k)

theorem DocCat.at {w : World} {r b : Nat} {av pv : Value} {s : CS} (h : DocCat w r b av pv s) : ∃ x, w.heap[r]? = some (catB x) := by
  cases hk : s.tk with
  | false => exact ⟨_, h.no hk⟩
  | true => exact ⟨_, h.cat hk⟩

theorem DocCat.lt {w : World} {r b : Nat} {av pv : Value} {s : CS} (h : DocCat w r b av pv s) {k : Nat} (hk : fpD r b av pv s k) : k < w.heap.size := by
  rcases hk with rfl | ⟨hk, hf⟩
  · obtain ⟨x, hx⟩ := h.at
    exact (Array.getElem?_eq_some_iff.1 hx).1
  · exact (h.box hk).fp_lt hf

theorem DocCat.blocks {w w' : World} {r b : Nat} {av pv : Value} {s : CS} (h : DocCat w r b av pv s) (hb : ∀ k, fpD r b av pv s k → w'.heap[k]? = w.heap[k]?) : DocCat w' r b av pv s :=
  ⟨fun hk => by rw [hb r (Or.inl rfl)]; exact h.no hk, fun hk => by rw [hb r (Or.inl rfl)]; exact h.cat hk, fun hk => (h.box hk).blocks (fun k hf => hb k (Or.inr ⟨hk, hf⟩)), h.nil⟩

theorem DocCat.on {w w' : World} {r b : Nat} {av pv : Value} {s : CS} (h : DocCat w r b av pv s) (hb : Below w.heap.size w w') : DocCat w' r b av pv s :=
  h.blocks (fun k hk => hb.block k (h.lt hk))

/-- The blocks are of four types. -/
theorem DocCat.types {w : World} {r b : Nat} {av pv : Value} {s : CS} (h : DocCat w r b av pv s) {k : Nat} (hk : fpD r b av pv s k) : ∃ cs t, w.heap[k]? = some (.cells cs t (0, 0)) ∧ (t = 47 ∨ t = 70 ∨ t = 3 ∨ t = 9) := by
  rcases hk with rfl | ⟨hk, hf⟩
  · obtain ⟨x, hx⟩ := h.at
    exact ⟨_, _, hx, Or.inl rfl⟩
  · rcases hf with rfl | hf | hf
    · exact ⟨_, _, (h.box hk).box, Or.inr (Or.inl rfl)⟩
    · obtain ⟨c, hc⟩ := owns_block (h.box hk).oa hf
      exact ⟨c, _, hc, Or.inr (Or.inr (Or.inl rfl))⟩
    · obtain ⟨c, hc⟩ := owns_block (h.box hk).op hf
      exact ⟨c, _, hc, Or.inr (Or.inr (Or.inr rfl))⟩

theorem DocCat.parted {w : World} {r b : Nat} {av pv : Value} {s : CS} (h : DocCat w r b av pv s) (hk : s.tk = true) : ¬ fpR b av pv r := fun hf => by
  have hr := h.cat hk
  rcases hf with rfl | hf | hf
  · have := (h.box hk).box
    rw [hr] at this
    simp at this
  · exact owns_other (h.box hk).oa hr (by decide) hf
  · exact owns_other (h.box hk).op hr (by decide) hf

theorem rhear_any (r b : Nat) (av pv : Value) (s : CS) (t : ByteArray) (w : World) (hc : DocCat w r b av pv s) (hs : CSok s) :
    Calls Tryz.prog 33 #[.pointer (some ⟨r, 0, none⟩), .string t] w fun e w' => e = .returned (.int .i64 (hearE s t)) ∧ ∃ b' av' pv', DocCat w' r b' av' pv' (hearS s t) ∧ Chg (fpD r b av pv s) w w' ∧ (∀ k, fpD r b' av' pv' (hearS s t) k → fpD r b av pv s k ∨ w.heap.size ≤ k) := by
  by_cases hp : PacketOk t
  · obtain ⟨h1, h2, h3, h4, h5, h6, h7⟩ := hp.has
    have hrd := rread_ok t hp
    by_cases hsm : s.tk = true → (rK t = s.K ∧ rM t = s.M ∧ rO t = s.O ∧ rS t = s.S ∧ rZ t = s.z)
    · have he := hearE_put hp hsm
      obtain ⟨hr, hcn⟩ := hs.base hsm
      obtain ⟨u1, u2⟩ := hr.put (i := rI t) (p := rQ t) (by omega) h6 h7
      have hS : hearS s t = if hearE s t = 0 then ⟨true, rK t, rM t, rO t, rS t, rZ t, putK s.kn (ofs (rK t) (rM t) (rO t) (rS t) (rI t)) (rQ t), if (hearL s t).1 = 0 then s.ps else s.ps ++ [(rI t, rQ t)]⟩ else s := rfl
      rcases putE_cases (hearL s t) (rZ t) with ⟨h0, hn⟩ | ⟨h0, hl, hne⟩
      · rw [he, h0, if_pos rfl] at hS
        by_cases hl : (hearL s t).1 = 0
        · rw [if_pos hl] at hS
          have htd := u1.2 hl
          have hsay := (u2 hl).1 (Classical.byContradiction (fun x => hn ⟨hl, x⟩))
          cases hk : s.tk with
          | false =>
            have hz := hs.none hk
            subst hz
            refine (rhear_first_told r (rK t) (rM t) (rO t) (rS t) (rZ t) (rI t) t (rQ t) w hrd (hc.no rfl) h1 h2 h3 h4 (by omega) h6 h7 htd hsay).mono fun e w' ⟨ha, b', hb', hcat, hbox, hcg⟩ => ⟨by rw [he, h0]; exact ha, b', .slice none 0 0, .slice none 0 0, ?_, hcg.mono (fun k _ hk => Or.inl hk), ?_⟩
            · rw [hS]
              exact ⟨fun x => (by cases x), fun _ => hcat, fun _ => hbox, fun _ _ => ⟨rfl, rfl⟩⟩
            · rintro k (hk | ⟨_, hk | hk | hk⟩)
              · exact Or.inl (Or.inl hk)
              · right; omega
              · simp [Value.ownBlock] at hk
              · simp [Value.ownBlock] at hk
          | true =>
            obtain ⟨e1, e2, e3, e4, e5⟩ := hsm hk
            have hbx := hc.box hk
            rw [← e1, ← e2, ← e3, ← e4, ← e5] at hbx
            refine (rhear_told r b (rK t) (rM t) (rO t) (rS t) (rZ t) (rI t) av pv s.ps t (rQ t) w hrd (hc.cat hk) hbx (by omega) hr.inn (hc.parted hk) h1 h2 h3 h4 (by omega) h6 h7 htd hsay).mono fun e w' ⟨ha, hcat, hbox, hcg⟩ => ⟨by rw [he, h0]; exact ha, b, av, pv, ?_, hcg.mono (fun k _ hk => Or.inl hk), ?_⟩
            · rw [hS]
              exact ⟨fun x => (by cases x), fun _ => hcat, fun _ => hbox, fun _ h => hc.nil hk h⟩
            · rintro k (hk2 | ⟨_, hk2⟩)
              · exact Or.inl (Or.inl hk2)
              · exact Or.inl (Or.inr ⟨hk, hk2⟩)
        · rw [if_neg hl] at hS
          have htd : (told (boxFacts (rK t) (rM t) (rO t) (rS t) (rZ t) s.ps) (2 ^ rI t) (rZ t)).2 = false := by
            cases hx : (told (boxFacts (rK t) (rM t) (rO t) (rS t) (rZ t) s.ps) (2 ^ rI t) (rZ t)).2 with
            | false => rfl
            | true => exact absurd (u1.1 hx) hl
          cases hk : s.tk with
          | false =>
            have hz := hs.none hk
            subst hz
            refine (rhear_first r (rK t) (rM t) (rO t) (rS t) (rZ t) (rI t) t (rQ t) w hrd (hc.no rfl) h1 h2 h3 h4 (by omega) h6 h7 htd).mono fun e w' ⟨ha, b', av', pv', hb', hcat, hbox, hcg, hnew⟩ => ⟨by rw [he, h0]; exact ha, b', av', pv', ?_, hcg.mono (fun k _ hk => Or.inl hk), ?_⟩
            · rw [hS]
              exact ⟨fun x => (by cases x), fun _ => hcat, fun _ => hbox, fun _ h => by simp at h⟩
            · rintro k (hk | ⟨_, hk⟩)
              · exact Or.inl (Or.inl hk)
              · exact Or.inr (hnew k hk)
          | true =>
            obtain ⟨e1, e2, e3, e4, e5⟩ := hsm hk
            have hbx := hc.box hk
            rw [← e1, ← e2, ← e3, ← e4, ← e5] at hbx
            refine (rhear_next r b (rK t) (rM t) (rO t) (rS t) (rZ t) (rI t) av pv s.ps t (rQ t) w hrd (hc.cat hk) hbx (by omega) hr.inn (hc.parted hk) h1 h2 h3 h4 (by omega) h6 h7 htd).mono fun e w' ⟨ha, av', pv', hcat, hbox, hcg, hnew⟩ => ⟨by rw [he, h0]; exact ha, b, av', pv', ?_, hcg.mono (fun k _ h => h.elim Or.inl (fun h => Or.inr ⟨hk, h⟩)), ?_⟩
            · rw [hS]
              exact ⟨fun x => (by cases x), fun _ => hcat, fun _ => hbox, fun _ h => by simp at h⟩
            · rintro k (hk2 | ⟨_, hk2⟩)
              · exact Or.inl (Or.inl hk2)
              · rcases hnew k hk2 with h | h
                · exact Or.inl (Or.inr ⟨hk, h⟩)
                · exact Or.inr h
      · rw [he, h0, if_neg (by decide)] at hS
        have htd := u1.2 hl
        have hsay : (told (boxFacts (rK t) (rM t) (rO t) (rS t) (rZ t) s.ps) (2 ^ rI t) (rZ t)).1 ≠ rQ t := fun x => hne ((u2 hl).2 x)
        have hfin : ∀ w', Below w.heap.size w w' → ∃ b' av' pv', DocCat w' r b' av' pv' (hearS s t) ∧ Chg (fpD r b av pv s) w w' ∧ (∀ k, fpD r b' av' pv' (hearS s t) k → fpD r b av pv s k ∨ w.heap.size ≤ k) := fun w' hb => ⟨b, av, pv, by rw [hS]; exact hc.on hb, Chg.of_below hb _, fun k hk => Or.inl (by rw [hS] at hk; exact hk)⟩
        cases hk : s.tk with
        | false =>
          have hz := hs.none hk
          subst hz
          exact (rhear_first_contrary r (rK t) (rM t) (rO t) (rS t) (rZ t) (rI t) t (rQ t) w hrd (hc.no rfl) h1 h2 h3 h4 (by omega) h6 h7 htd hsay).mono fun e w' ⟨ha, hb⟩ => ⟨by rw [he, h0]; exact ha, hfin w' hb⟩
        | true =>
          obtain ⟨e1, e2, e3, e4, e5⟩ := hsm hk
          have hbx := hc.box hk
          rw [← e1, ← e2, ← e3, ← e4, ← e5] at hbx
          exact (rhear_contrary r b (rK t) (rM t) (rO t) (rS t) (rZ t) (rI t) av pv s.ps t (rQ t) w hrd (hc.cat hk) hbx (by omega) hr.inn h1 h2 h3 h4 (by omega) h6 h7 htd hsay).mono fun e w' ⟨ha, hb⟩ => ⟨by rw [he, h0]; exact ha, hfin w' hb⟩
    · have hk : s.tk = true := Classical.byContradiction (fun hk => hsm (fun e => absurd e hk))
      obtain ⟨he, hst⟩ := hearE_other hp hk (fun e => hsm (fun _ => e))
      rw [he, hst]
      exact (rhear_other r b (rK t) (rM t) (rO t) (rS t) (rZ t) (rI t) s.K s.M s.O s.S s.z av pv t (rQ t) w hrd (hc.cat hk) (hc.box hk).box (fun ⟨a1, a2, a3, a4, a5⟩ => hsm (fun _ => ⟨a1.symm, a2.symm, a3.symm, a4.symm, a5.symm⟩))).mono fun e w' ⟨ha, hb⟩ => ⟨ha, b, av, pv, hc.on hb, Chg.of_below hb _, fun k h => Or.inl h⟩
  · obtain ⟨he, hst⟩ := hearE_no (s := s) hp
    rw [he, hst]
    exact (rhear_none _ t w (fun W => rread_no t hp W)).mono fun e w' ⟨ha, hb⟩ => ⟨ha, b, av, pv, hc.on hb, Chg.of_below hb _, fun k h => Or.inl h⟩

theorem rwants_any (r b : Nat) (av pv : Value) (s : CS) (w : World) (hc : DocCat w r b av pv s) (hs : CSok s) :
    Calls Tryz.prog 35 #[.pointer (some ⟨r, 0, none⟩)] w fun e w' => e = .returned (.int .i64 (wantE s)) ∧ Below w.heap.size w w' := by
  unfold wantE
  cases hk : s.tk with
  | false => exact rwants_nil r w (hc.no hk)
  | true =>
    have sp := hs.spec hk
    have hl := hs.cnt hk
    have hK := sp.hK
    have hM := sp.hM
    rw [if_pos rfl, ← (hs.rel hk).need sp.hK.2 (by omega)]
    exact rwants_box r b s.K s.M s.O s.S s.z av pv s.ps w (hc.cat hk) sp.hK sp.hM sp.hO sp.hS (by have := sp.hz; omega) (hc.box hk) (by omega) (hs.rel hk).inn (hc.nil hk)

theorem joinTo_congr (F G : Nat → ByteArray × Bool) (n : Nat) (h : ∀ i, i < n → (F i).1 = (G i).1) : joinTo F n = joinTo G n := by
  induction n with
  | zero => rfl
  | succ n ih =>
    show joinTo F n ++ (F n).1 = joinTo G n ++ (G n).1
    rw [ih (fun i hi => h i (by omega)), h n (by omega)]

theorem robj_any (r b : Nat) (av pv : Value) (s : CS) (w : World) (hc : DocCat w r b av pv s) (hs : CSok s) :
    Calls Tryz.prog 37 #[.pointer (some ⟨r, 0, none⟩)] w fun e w' => e = .returned (.tuple #[.string (objE s).1, .int .i64 (objE s).2]) ∧ Below w.heap.size w w' := by
  unfold objE
  cases hk : s.tk with
  | false =>
    rw [if_neg (by simp)]
    exact rcobj_nil r w (hc.no hk)
  | true =>
    have sp := hs.spec hk
    have hl := hs.cnt hk
    have hK := sp.hK
    have hM := sp.hM
    have hge := fun i (hi : i < s.K) => (hs.rel hk).get (i := i) (by omega) (by omega)
    have hT : (∀ j, j < s.K → (csG s j).2 = true) → catTo (gotTo (fun i => told (boxFacts s.K s.M s.O s.S s.z s.ps) (2 ^ i) s.z) s.K) s.K = joinTo (csG s) s.K := fun h => by
      rw [joinTo_cat _ _ _ (Nat.le_refl _)]
      exact joinTo_congr _ _ _ (fun i hi => ((hge i hi).2 (decide_eq_true_iff.1 (h i hi))).symm)
    have hiff : (∀ j, j < s.K → (told (boxFacts s.K s.M s.O s.S s.z s.ps) (2 ^ j) s.z).2 = true) ↔ csAll s = true := by
      rw [csAll_iff]
      exact ⟨fun h j hj => decide_eq_true_iff.2 ((hge j hj).1.1 (h j hj)), fun h j hj => (hge j hj).1.2 (decide_eq_true_iff.1 (h j hj))⟩
    refine (rcobj_box r b s.K s.M s.O s.S s.z av pv s.ps (fun i => told (boxFacts s.K s.M s.O s.S s.z s.ps) (2 ^ i) s.z) _ w (hc.cat hk) sp.hK sp.hM sp.hO sp.hS (by have := sp.hz; omega) (hc.box hk) (by omega) (hs.rel hk).inn rfl rfl).mono fun e w' ⟨⟨h1, h2, h3⟩, hb⟩ => ⟨?_, hb⟩
    by_cases ha : csAll s = true
    · rw [if_pos ⟨rfl, ha⟩]
      have hall := hiff.2 ha
      rw [hT ((csAll_iff s).1 ha)] at h1 h2
      cases ho : objOk (joinTo (csG s) s.K) with
      | true => rw [if_pos rfl]; exact h1 hall ho
      | false => rw [if_neg (by simp)]; exact h2 hall ho
    · rw [if_neg (fun h => ha h.2)]
      exact h3 (fun h => ha (hiff.1 h))

end Go.Proofs.YtnjaofkieajnlaaGreat

/- Packets of a word's pieces, and an object's word: plain facts. -/
namespace Go.Proofs.YtnjaofkieajnlaaGreat

theorem packB_size (K M O S z i : Nat) (q : ByteArray) : (packB K M O S z i q).size = 9 + q.size := by
  unfold packB
  rw [ByteArray.size_append, packT_size]
  show 8 + q.size + 1 = _
  omega

theorem cutTo_getD (t : ByteArray) (z n j : Nat) (h : j < n) : (cutTo t z n).getD j ByteArray.empty = t.extract (j * z) (j * z + z) := by
  induction n with
  | zero => omega
  | succ n ih =>
    show (cutTo t z n ++ [t.extract (n * z) (n * z + z)]).getD j ByteArray.empty = _
    rw [List.getD_eq_getElem?_getD]
    by_cases e : j < n
    · rw [List.getElem?_append_left (by rw [cutTo_length]; exact e), ← List.getD_eq_getElem?_getD]; exact ih e
    · have : j = n := by omega
      subst this
      rw [List.getElem?_append_right (by rw [cutTo_length]; exact Nat.le_refl _), cutTo_length, Nat.sub_self]; rfl

theorem knownTo_getD (data : List ByteArray) (rows : Nat → List Nat) (z n j : Nat) (h : j < data.length) : (knownTo data rows z n).getD j ByteArray.empty = data.getD j ByteArray.empty := by
  induction n with
  | zero => rfl
  | succ n ih =>
    show (knownTo data rows z n ++ [_]).getD j ByteArray.empty = _
    rw [List.getD_eq_getElem?_getD, List.getElem?_append_left (by rw [knownTo_length]; omega), ← List.getD_eq_getElem?_getD]; exact ih

theorem packTo_getD (K M O S z : Nat) (P : List ByteArray) (n j : Nat) (h : j < n) : (packTo K M O S z P n).getD j ByteArray.empty = packB K M O S z j (P.getD j ByteArray.empty) := by
  induction n with
  | zero => omega
  | succ n ih =>
    show (packTo K M O S z P n ++ [packB K M O S z n (P.getD n ByteArray.empty)]).getD j ByteArray.empty = _
    rw [List.getD_eq_getElem?_getD]
    by_cases e : j < n
    · rw [List.getElem?_append_left (by rw [packTo_length]; exact e), ← List.getD_eq_getElem?_getD]; exact ih e
    · have : j = n := by omega
      subst this
      rw [List.getElem?_append_right (by rw [packTo_length]; exact Nat.le_refl _), packTo_length, Nat.sub_self]; rfl

theorem objWord_is {K M O S z : Nat} (o : ByteArray) (h : o.size + 2 ≤ K * z) : IsWord K M O S z (objWord K M O S z o) := by
  have hs := objT_size (K * z) o h
  have hc := cutTo_size (objT (K * z) o) z K (by rw [hs]; exact Nat.le_refl _)
  exact ⟨by unfold objWord; rw [knownTo_length, cutTo_length], knownTo_size hc M, fun i hi => known_fits K M O S _ z hc (cutTo_length _ _ _) i hi⟩

theorem objWord_data {K M O S z : Nat} (o : ByteArray) {j : Nat} (hj : j < K) : (objWord K M O S z o).getD j ByteArray.empty = (objT (K * z) o).extract (j * z) (j * z + z) := by
  unfold objWord
  rw [knownTo_getD _ _ _ _ _ (by rw [cutTo_length]; exact hj), cutTo_getD _ _ _ _ hj]

theorem packTo_sizes {K M O S z : Nat} {o : ByteArray} (h : o.size + 2 ≤ K * z) {i : Nat} (hi : i < K + M) : ((packTo K M O S z (objWord K M O S z o) (K + M)).getD i ByteArray.empty).size = 9 + z := by
  rw [packTo_getD _ _ _ _ _ _ _ _ hi, packB_size, (objWord_is o h).at_size hi]

end Go.Proofs.YtnjaofkieajnlaaGreat

/- A large object as plain mathematics: its parts, its sheets, the order that is drawn. -/
namespace Go.Proofs.YtnjaofkieajnlaaGreat

/-- How many parts, for parts of n bytes. -/
def partsN (t : ByteArray) (n : Nat) : Nat := if t.size = 0 then 1 else (t.size + n - 1) / n

/-- The part at p. -/
def partT (t : ByteArray) (n p : Nat) : ByteArray := t.extract (p * n) (if t.size < p * n + n then t.size else p * n + n)

/-- A sheet. -/
def sheetB (p c : Nat) (k : ByteArray) : ByteArray := ⟨#[83]⟩ ++ ⟨#[UInt8.ofNat p, UInt8.ofNat c]⟩ ++ k

/-- The sheets of the first packets of a part. -/
def sheetTo (p c : Nat) (L : List ByteArray) : Nat → List ByteArray
  | 0 => []
  | i + 1 => sheetTo p c L i ++ [sheetB p c (L.getD i ByteArray.empty)]

/-- The packets of a part. -/
def partL (K M O S z : Nat) (t : ByteArray) (p : Nat) : List ByteArray := packTo K M O S z (objWord K M O S z (partT t (K * z - 2) p)) (K + M)

/-- The sheets of the first parts. -/
def sheetsTo (K M O S z c : Nat) (t : ByteArray) : Nat → List ByteArray
  | 0 => []
  | p + 1 => sheetsTo K M O S z c t p ++ sheetTo p c (partL K M O S z t p) (K + M)

theorem sheetTo_length (p c : Nat) (L : List ByteArray) (i : Nat) : (sheetTo p c L i).length = i := by
  induction i with
  | zero => rfl
  | succ i ih => show (sheetTo p c L i ++ [_]).length = _; rw [List.length_append, ih]; rfl

theorem sheetsTo_length (K M O S z c : Nat) (t : ByteArray) (p : Nat) : (sheetsTo K M O S z c t p).length = p * (K + M) := by
  induction p with
  | zero => simp [sheetsTo]
  | succ p ih => show (sheetsTo K M O S z c t p ++ _).length = _; rw [List.length_append, ih, sheetTo_length, Nat.succ_mul]

theorem partsN_pos (t : ByteArray) (n : Nat) (hn : 1 ≤ n) : 1 ≤ partsN t n := by
  unfold partsN
  split
  · exact Nat.le_refl _
  · rename_i h
    exact (Nat.le_div_iff_mul_le (by omega)).2 (by omega)

/-- A part lies within the text. -/
theorem partT_in (t : ByteArray) (n p : Nat) (hn : 1 ≤ n) (hp : p < partsN t n) : p * n ≤ t.size ∧ (partT t n p).size ≤ n := by
  have h1 : p * n ≤ t.size := by
    unfold partsN at hp
    split at hp
    · have : p = 0 := by omega
      subst this; simp
    · rename_i h
      have := (Nat.lt_div_iff_mul_lt (by omega)).1 hp
      omega
  refine ⟨h1, ?_⟩
  unfold partT
  rw [ByteArray.size_extract]
  split <;> omega

/-- Two places change. -/
def swapL {α : Type} (l : List α) (d : α) (i j : Nat) : List α := (l.set i (l.getD j d)).set j (l.getD i d)

theorem swapL_length {α : Type} (l : List α) (d : α) (i j : Nat) : (swapL l d i j).length = l.length := by simp [swapL]

/-- The order that is drawn, from place i down. -/
def mixFrom {α : Type} (d : α) (x : Nat) (l : List α) : Nat → List α
  | 0 => l
  | i + 1 => mixFrom d (nxt x) (swapL l d (i + 1) (nxt x % (i + 2))) i

theorem mixFrom_length {α : Type} (d : α) (x : Nat) (l : List α) (i : Nat) : (mixFrom d x l i).length = l.length := by
  induction i generalizing x l with
  | zero => rfl
  | succ i ih => show (mixFrom d (nxt x) _ i).length = _; rw [ih, swapL_length]

theorem getD_map_lt {α β : Type} (f : α → β) (l : List α) (a : α) (b : β) (i : Nat) (h : i < l.length) : (l.map f).getD i b = f (l.getD i a) := by
  rw [List.getD_eq_getElem?_getD, List.getD_eq_getElem?_getD, List.getElem?_map, List.getElem?_eq_getElem h]; rfl

theorem swapL_map {α β : Type} (f : α → β) (l : List α) (a : α) (b : β) (i j : Nat) (hi : i < l.length) (hj : j < l.length) : (swapL l a i j).map f = swapL (l.map f) b i j := by
  unfold swapL
  rw [List.map_set, List.map_set, getD_map_lt f l a b i hi, getD_map_lt f l a b j hj]

/-- To draw numbers, or what stands there: no matter. -/
theorem mixFrom_map {α β : Type} (f : α → β) (a : α) (b : β) (x : Nat) (l : List α) (i : Nat) (hi : i < l.length ∨ i = 0) : (mixFrom a x l i).map f = mixFrom b x (l.map f) i := by
  induction i generalizing x l with
  | zero => rfl
  | succ i ih =>
    have hi' : i + 1 < l.length := by omega
    have hm := Nat.mod_lt (nxt x) (show 0 < i + 2 by omega)
    show (mixFrom a (nxt x) (swapL l a (i + 1) (nxt x % (i + 2))) i).map f = mixFrom b (nxt x) (swapL (l.map f) b (i + 1) (nxt x % (i + 2))) i
    rw [ih _ _ (by rw [swapL_length]; omega), swapL_map f l a b _ _ hi' (by omega)]

theorem mem_swapL {α : Type} (l : List α) (d : α) (i j : Nat) (hi : i < l.length) (hj : j < l.length) (x : α) (h : x ∈ swapL l d i j) : x ∈ l := by
  unfold swapL at h
  rcases List.mem_or_eq_of_mem_set h with h | h
  · rcases List.mem_or_eq_of_mem_set h with h | h
    · exact h
    · rw [h, List.getD_eq_getElem?_getD, List.getElem?_eq_getElem hj]; exact List.getElem_mem _
  · rw [h, List.getD_eq_getElem?_getD, List.getElem?_eq_getElem hi]; exact List.getElem_mem _

theorem mem_mixFrom {α : Type} (d : α) (x : Nat) (l : List α) (i : Nat) (hi : i < l.length ∨ i = 0) (y : α) (h : y ∈ mixFrom d x l i) : y ∈ l := by
  induction i generalizing x l with
  | zero => exact h
  | succ i ih =>
    have hm := Nat.mod_lt (nxt x) (show 0 < i + 2 by omega)
    exact mem_swapL l d _ _ (by omega) (by omega) y (ih _ _ (by rw [swapL_length]; omega) h)

theorem range_map_getD {α : Type} (l : List α) (d : α) : (List.range l.length).map (fun k => l.getD k d) = l := by
  apply List.ext_getElem?
  intro i
  by_cases h : i < l.length
  · rw [List.getElem?_map, List.getElem?_range h, List.getElem?_eq_getElem h]
    show some (l.getD i d) = _
    rw [List.getD_eq_getElem?_getD, List.getElem?_eq_getElem h]; rfl
  · rw [List.getElem?_eq_none (by simp; omega), List.getElem?_eq_none (by omega)]

end Go.Proofs.YtnjaofkieajnlaaGreat
