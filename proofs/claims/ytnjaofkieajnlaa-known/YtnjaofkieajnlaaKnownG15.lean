/- Texts of the proof, part 16. -/
import Derived.Test.YtnjaofkieajnlaaKnownG11
import Derived.Test.YtnjaofkieajnlaaKnownG12
import Derived.Test.YtnjaofkieajnlaaKnownG14
import Derived.Test.YtnjaofkieajnlaaKnownG8

/- The program's catcher: Hear whole, and all calls as they are called; Listen. -/
namespace Go.Proofs.Ytnjaofkieajnlaa
open Go.RowKit

set_option maxRecDepth 100000 in
set_option maxHeartbeats 4000000 in
theorem ohear_no (c : Value) (t : ByteArray) (w : World) (ht : ¬ PacketOk t) :
    Calls Try.prog 74 #[c, .string t] w fun e w' => e = .returned (.int .i64 6) ∧ Below w.heap.size w w' := by
  have hrd := fun W => pread_no t W ht
  clear ht
  go_enter Try.func74, Try.ntmps74
  go_wp2_with fail
  refine (hrd _).mono ?_
  rintro e w1 ⟨rfl, hb1⟩
  have hbf := hb1.alloc hb1.size (.cells pk0 107)
  go_wp2_with fail
  go_ret
  exact ⟨rfl, hbf⟩

/-- What Hear does with a packet, by what first or next does. -/
theorem ohear_by (tk : Bool) (f : Nat) (hf : f = if tk then 91 else 92) (p o : Nat) (t : ByteArray) (P : Int → World → World → Prop) (n : Int) (w : World) (ht : PacketOk t) (hcell : ∀ w1, Below w.heap.size w w1 → w1.cell? ⟨p, o, none⟩ = some (.bool tk))
    (hdo : ∀ w1, Below w.heap.size w w1 → Calls Try.prog f #[.pointer (some ⟨p, o, none⟩), .agg (pkC (rK t) (rM t) (rO t) (rS t) (rZ t) (rI t) (rQ t))] w1 fun e w' => e = .returned (.int .i64 n) ∧ P n w1 w') :
    Calls Try.prog 74 #[.pointer (some ⟨p, o, none⟩), .string t] w fun e w' => e = .returned (.int .i64 n) ∧ ∃ w1, Below w.heap.size w w1 ∧ P n w1 w' := by
  have hrd := fun W => pread_ok t W ht
  clear ht
  generalize (rK t : Int) = K at *
  generalize (rM t : Int) = M at *
  generalize (rO t : Int) = O at *
  generalize (rS t : Int) = S at *
  generalize (rZ t : Int) = z at *
  generalize (rI t : Int) = i at *
  generalize rQ t = q at *
  cases tk with
  | true =>
    simp only [if_true] at hf
    subst hf
    go_enter Try.func74, Try.ntmps74
    go_wp2_with fail
    refine (hrd _).mono ?_
    rintro e w1 ⟨rfl, hb1⟩
    have hbf := hb1.alloc hb1.size (.cells (pkC K M O S z i q) 107)
    have c0 := hcell _ hbf
    clear hcell hrd
    go_wp2_with fail
    refine (hdo _ hbf).mono ?_
    rintro e w2 ⟨rfl, hP⟩
    clear c0 hdo
    have HE : ∃ w1, Below w.heap.size w w1 ∧ P n w1 w2 := ⟨_, hbf, hP⟩
    clear hbf hP
    go_wp2_with fail
    go_ret
    exact ⟨rfl, HE⟩
  | false =>
    simp only [Bool.false_eq_true, if_false] at hf
    subst hf
    go_enter Try.func74, Try.ntmps74
    go_wp2_with fail
    refine (hrd _).mono ?_
    rintro e w1 ⟨rfl, hb1⟩
    have hbf := hb1.alloc hb1.size (.cells (pkC K M O S z i q) 107)
    have c0 := hcell _ hbf
    clear hcell hrd
    go_wp2_with fail
    refine (hdo _ hbf).mono ?_
    rintro e w2 ⟨rfl, hP⟩
    clear c0 hdo
    have HE : ∃ w1, Below w.heap.size w w1 ∧ P n w1 w2 := ⟨_, hbf, hP⟩
    clear hbf hP
    go_wp2_with fail
    go_ret
    exact ⟨rfl, HE⟩

theorem chg_below {S : Nat → Prop} {w w1 w2 : World} (h : Below w.heap.size w w1) (hc : Chg S w1 w2) : Chg S w w2 := (Chg.of_below h S).trans hc (fun _ _ s => s)

theorem ohear_first (p o Ln : Nat) (tt : TypeId) (hh : Nat → Value) (t : ByteArray) (w : World) (ht : PacketOk t) (hc : CatNone w p o Ln tt hh) :
    Calls Try.prog 74 #[.pointer (some ⟨p, o, none⟩), .string t] w fun e w' => e = .returned (.int .i64 (putE (left kn0 (ofs (rK t) (rM t) (rO t) (rS t) (rI t)) (rQ t)) (rZ t))) ∧ (putE (left kn0 (ofs (rK t) (rM t) (rO t) (rS t) (rI t)) (rQ t)) (rZ t) = 0 → CatHas w' p o Ln tt hh (rK t) (rM t) (rO t) (rS t) (rZ t) (putK kn0 (ofs (rK t) (rM t) (rO t) (rS t) (rI t)) (rQ t))) ∧ (putE (left kn0 (ofs (rK t) (rM t) (rO t) (rS t) (rI t)) (rQ t)) (rZ t) ≠ 0 → Below w.heap.size w w') ∧ Chg (fun k => k = p) w w' := by
  obtain ⟨h1, h2, h3, h4, h5, h6, h7⟩ := ht.has
  refine (ohear_by false _ rfl p o t (fun n w1 w' => (n = 0 → CatHas w' p o Ln tt hh (rK t) (rM t) (rO t) (rS t) (rZ t) (putK kn0 (ofs (rK t) (rM t) (rO t) (rS t) (rI t)) (rQ t))) ∧ (n ≠ 0 → Below w1.heap.size w1 w') ∧ Chg (fun k => k = p) w1 w') (putE (left kn0 (ofs (rK t) (rM t) (rO t) (rS t) (rI t)) (rQ t)) (rZ t)) w ht (fun w1 hb => (hc.on (Nat.le_refl _) hb).head.1) (fun w1 hb => ?_)).mono ?_
  · simpa using pfirst_any p o Ln tt hh (rK t) (rM t) (rO t) (rS t) (rZ t) (rI t) (rQ t) w1 h1 h2 h3 h4 h5 h6 h7 (hc.on (Nat.le_refl _) hb)
  · rintro e w' ⟨he, w1, hb, ha, hb2, hc2⟩
    exact ⟨he, ha, fun h => hb.trans ((hb2 h).mono hb.size), chg_below hb hc2⟩

theorem ohear_other (p o Ln : Nat) (tt : TypeId) (hh : Nat → Value) (K M O S z n : Nat) (of : Nat → Nat) (kn : Kn) (t : ByteArray) (w : World) (ht : PacketOk t) (hc : CatOff w p o Ln tt hh true K M O S z n of kn) (hno : ¬ (rK t = K ∧ rM t = M ∧ rO t = O ∧ rS t = S ∧ rZ t = z)) :
    Calls Try.prog 74 #[.pointer (some ⟨p, o, none⟩), .string t] w fun e w' => e = .returned (.int .i64 7) ∧ Below w.heap.size w w' := by
  refine (ohear_by true _ rfl p o t (fun _ w1 w' => Below w1.heap.size w1 w') 7 w ht (fun w1 hb => (hc.on (Nat.le_refl _) hb).head.1) (fun w1 hb => ?_)).mono ?_
  · simpa using pnext_other p o Ln tt hh K M O S z n of kn (rK t) (rM t) (rO t) (rS t) (rZ t) (rI t) (rQ t) w1 (hc.on (Nat.le_refl _) hb) hno
  · rintro e w' ⟨he, w1, hb, hb2⟩
    exact ⟨he, hb.trans (hb2.mono hb.size)⟩

theorem ohear_put (p o Ln : Nat) (tt : TypeId) (hh : Nat → Value) (kn : Kn) (t : ByteArray) (w : World) (ht : PacketOk t) (hkn : KnOk (rK t) (rZ t) kn) (hc : CatHas w p o Ln tt hh (rK t) (rM t) (rO t) (rS t) (rZ t) kn) :
    Calls Try.prog 74 #[.pointer (some ⟨p, o, none⟩), .string t] w fun e w' => e = .returned (.int .i64 (putE (left kn (ofs (rK t) (rM t) (rO t) (rS t) (rI t)) (rQ t)) (rZ t))) ∧ CatHas w' p o Ln tt hh (rK t) (rM t) (rO t) (rS t) (rZ t) (putK kn (ofs (rK t) (rM t) (rO t) (rS t) (rI t)) (rQ t)) ∧ Chg (fun k => k = p) w w' := by
  obtain ⟨h1, h2, h3, h4, h5, h6, h7⟩ := ht.has
  refine (ohear_by true _ rfl p o t (fun n w1 w' => CatHas w' p o Ln tt hh (rK t) (rM t) (rO t) (rS t) (rZ t) (putK kn (ofs (rK t) (rM t) (rO t) (rS t) (rI t)) (rQ t)) ∧ Chg (fun k => k = p) w1 w') (putE (left kn (ofs (rK t) (rM t) (rO t) (rS t) (rI t)) (rQ t)) (rZ t)) w ht (fun w1 hb => (hc.on (Nat.le_refl _) hb).head.1) (fun w1 hb => ?_)).mono ?_
  · simpa using pnext_put p o Ln tt hh (rK t) (rM t) (rO t) (rS t) (rZ t) kn (rI t) (rQ t) w1 h1.2 h2.2 hkn h5.2 h6 h7 (hc.on (Nat.le_refl _) hb)
  · rintro e w' ⟨he, w1, hb, ha, hc2⟩
    exact ⟨he, ha, chg_below hb hc2⟩

/-- A call of the program's catcher is that of what lies in it. -/
theorem hear_by (p : Nat) (t : ByteArray) (n : Int) (P : World → Prop) (w : World) (h : Calls Try.prog 74 #[.pointer (some ⟨p, 0, none⟩), .string t] w fun e w' => e = .returned (.int .i64 n) ∧ P w') :
    Calls Try.prog 54 #[.pointer (some ⟨p, 0, none⟩), .string t] w fun e w' => e = .returned (.int .i64 n) ∧ P w' := by
  go_enter Try.func54, Try.ntmps54
  go_wp2_with fail
  refine h.mono ?_
  rintro e w1 ⟨rfl, hP⟩
  go_wp2_with fail
  go_ret
  exact ⟨rfl, hP⟩

theorem wants_by (p : Nat) (n : Int) (P : World → Prop) (w : World) (h : Calls Try.prog 73 #[.pointer (some ⟨p, 0, none⟩)] w fun e w' => e = .returned (.int .i64 n) ∧ P w') :
    Calls Try.prog 53 #[.pointer (some ⟨p, 0, none⟩)] w fun e w' => e = .returned (.int .i64 n) ∧ P w' := by
  go_enter Try.func53, Try.ntmps53
  go_wp2_with fail
  refine h.mono ?_
  rintro e w1 ⟨rfl, hP⟩
  go_wp2_with fail
  go_ret
  exact ⟨rfl, hP⟩

theorem object_by (p : Nat) (s : ByteArray) (n : Int) (P : World → Prop) (w : World) (h : Calls Try.prog 72 #[.pointer (some ⟨p, 0, none⟩)] w fun e w' => e = .returned (.tuple #[.string s, .int .i64 n]) ∧ P w') :
    Calls Try.prog 52 #[.pointer (some ⟨p, 0, none⟩)] w fun e w' => e = .returned (.tuple #[.string s, .int .i64 n]) ∧ P w' := by
  go_enter Try.func52, Try.ntmps52
  go_wp2_with fail
  refine h.mono ?_
  rintro e w1 ⟨rfl, hP⟩
  go_wp2_with fail
  go_ret2
  exact ⟨rfl, hP⟩

/-- The cells of a catcher that has heard nothing. -/
def noCatL : List Value := (List.range 89).map (catCell false 0 0 0 0 0 0 (fun _ => 0) kn0)

theorem built_nocat : Try.prog.built 100 [] = some noCatL.toArray := by kernel_rfl

noncomputable def builtRC (parts : Array (Nat × Value)) : Sem Value := Instr.build 100 parts

theorem build_maskRC (parts : Array (Nat × Value)) : Instr.build 100 parts = builtRC parts := rfl

theorem newCat_at (w : World) : CatNone (w.alloc (.cells noCatL.toArray 100)) w.heap.size 0 89 100 (fun _ => undef) := by
  refine ⟨Nat.le_refl _, _, heap_alloc_new w _, by simp [noCatL], fun i hi => ?_⟩
  unfold noCatL inCat
  rw [if_neg (by omega), if_pos (by omega), Nat.sub_zero, List.getElem?_toArray, List.getElem?_map, List.getElem?_range hi]; rfl

attribute [local go_sem ↓] build_maskRC

set_option maxRecDepth 100000 in
set_option maxHeartbeats 4000000 in
theorem listen_any (w : World) :
    Calls Try.prog 51 #[] w fun e w' => ∃ p, e = .returned (.pointer (some ⟨p, 0, none⟩)) ∧ CatNone w' p 0 89 100 (fun _ => undef) ∧ w.heap.size ≤ p ∧ Below w.heap.size w w' := by
  have hb : ∀ w, (builtRC #[]).run Try.prog w = .ok (.agg noCatL.toArray) w := fun w => run_build (P := Try.prog) w 100 #[] _ built_nocat
  have hat := newCat_at w
  generalize noCatL = cs at *
  go_enter Try.func51, Try.ntmps51
  go_wp2_with fail
  go_ret
  exact ⟨_, rfl, hat, Nat.le_refl _, (Below.refl _ _).alloc (Nat.le_refl _) _⟩

end Go.Proofs.Ytnjaofkieajnlaa

/- The document's own Hear: a first packet of which all is told. -/
namespace Go.Proofs.Ytnjaofkieajnlaa
open Go.RowKit

end Go.Proofs.Ytnjaofkieajnlaa

/- The document's own Hear: further packets. -/
namespace Go.Proofs.Ytnjaofkieajnlaa
open Go.RowKit

end Go.Proofs.Ytnjaofkieajnlaa

/- The document's own Hear: further packets of which all is told. -/
namespace Go.Proofs.Ytnjaofkieajnlaa
open Go.RowKit

end Go.Proofs.Ytnjaofkieajnlaa

/- The document's own Hear: packets of another object. -/
namespace Go.Proofs.Ytnjaofkieajnlaa
open Go.RowKit

end Go.Proofs.Ytnjaofkieajnlaa

/- A catcher as plain mathematics: what it has taken, and what it answers; the program's catcher and the document's both go by it. -/
namespace Go.Proofs.Ytnjaofkieajnlaa
open Go.RowKit

/-- What a catcher has taken. -/
structure CS where
  tk : Bool
  K : Nat
  M : Nat
  O : Nat
  S : Nat
  z : Nat
  kn : Kn
  ps : List (Nat × ByteArray)

def CS.zero : CS := ⟨false, 0, 0, 0, 0, 0, kn0, []⟩

structure CSok (s : CS) : Prop where
  spec : s.tk = true → SpecOk s.K s.M s.O s.S s.z
  rel : s.tk = true → Rel s.K s.M s.O s.S s.z s.kn s.ps
  cnt : s.tk = true → s.ps.length + openK s.kn s.K = s.K
  none : s.tk = false → s = CS.zero

theorem CSok.new : CSok CS.zero := ⟨fun h => (by cases h), fun h => (by cases h), fun h => (by cases h), fun _ => rfl⟩

def packetB (p : ByteArray) : Bool := decide (10 ≤ p.size ∧ p.size ≤ 25 ∧ byteAt p 0 = 82 ∧ mayB (rK p) (rM p) (rO p) (rS p) = true ∧ rI p < rK p + rM p ∧ p.size = rZ p + 9 ∧ addTo p p.size = 0)

theorem packetB_iff (p : ByteArray) : packetB p = true ↔ PacketOk p := decide_eq_true_iff

def sameB (s : CS) (t : ByteArray) : Bool := decide (rK t = s.K ∧ rM t = s.M ∧ rO t = s.O ∧ rS t = s.S ∧ rZ t = s.z)

theorem sameB_iff (s : CS) (t : ByteArray) : sameB s t = true ↔ (rK t = s.K ∧ rM t = s.M ∧ rO t = s.O ∧ rS t = s.S ∧ rZ t = s.z) := decide_eq_true_iff

/-- What is left of a packet's piece. -/
def hearL (s : CS) (t : ByteArray) : Fct := left s.kn (ofs (rK t) (rM t) (rO t) (rS t) (rI t)) (rQ t)

/-- What Hear answers. -/
def hearE (s : CS) (t : ByteArray) : Int := if packetB t = false then 6 else if s.tk = true ∧ sameB s t = false then 7 else putE (hearL s t) (rZ t)

/-- What a catcher has taken behind it. -/
def hearS (s : CS) (t : ByteArray) : CS := if hearE s t = 0 then ⟨true, rK t, rM t, rO t, rS t, rZ t, putK s.kn (ofs (rK t) (rM t) (rO t) (rS t) (rI t)) (rQ t), if (hearL s t).1 = 0 then s.ps else s.ps ++ [(rI t, rQ t)]⟩ else s

/-- What is told of a piece of data. -/
def csG (s : CS) (i : Nat) : ByteArray × Bool := ((left s.kn (ofs s.K s.M s.O s.S i) (zeroB s.z)).2, decide ((left s.kn (ofs s.K s.M s.O s.S i) (zeroB s.z)).1 = 0))

def csAll (s : CS) : Bool := (List.range s.K).all (fun j => (csG s j).2)

theorem csAll_iff (s : CS) : csAll s = true ↔ ∀ j, j < s.K → (csG s j).2 = true := by
  unfold csAll
  rw [List.all_eq_true]
  exact ⟨fun h j hj => h j (List.mem_range.2 hj), fun h j hj => h j (List.mem_range.1 hj)⟩

/-- What Object answers. -/
def objE (s : CS) : ByteArray × Int := if s.tk = true ∧ csAll s = true then (if objOk (joinTo (csG s) s.K) = true then (objText (joinTo (csG s) s.K), 0) else (⟨#[]⟩, 8)) else (⟨#[]⟩, 5)

/-- What Wants answers. -/
def wantE (s : CS) : Int := if s.tk = true then (openK s.kn s.K : Int) else -1

theorem hearE_no {s : CS} {t : ByteArray} (h : ¬ PacketOk t) : hearE s t = 6 ∧ hearS s t = s := by
  have hb : packetB t = false := by
    cases hp : packetB t with
    | false => rfl
    | true => exact absurd ((packetB_iff t).1 hp) h
  have he : hearE s t = 6 := by unfold hearE; rw [if_pos hb]
  exact ⟨he, by unfold hearS; rw [he, if_neg (by decide)]⟩

theorem hearE_other {s : CS} {t : ByteArray} (h : PacketOk t) (hk : s.tk = true) (hs : ¬ (rK t = s.K ∧ rM t = s.M ∧ rO t = s.O ∧ rS t = s.S ∧ rZ t = s.z)) : hearE s t = 7 ∧ hearS s t = s := by
  have hb : sameB s t = false := by
    cases hp : sameB s t with
    | false => rfl
    | true => exact absurd ((sameB_iff s t).1 hp) hs
  have he : hearE s t = 7 := by unfold hearE; rw [if_neg (by rw [(packetB_iff t).2 h]; simp), if_pos ⟨hk, hb⟩]
  exact ⟨he, by unfold hearS; rw [he, if_neg (by decide)]⟩

theorem hearE_put {s : CS} {t : ByteArray} (h : PacketOk t) (hs : s.tk = true → (rK t = s.K ∧ rM t = s.M ∧ rO t = s.O ∧ rS t = s.S ∧ rZ t = s.z)) : hearE s t = putE (hearL s t) (rZ t) := by
  unfold hearE
  rw [if_neg (by rw [(packetB_iff t).2 h]; simp), if_neg (fun ⟨a, b⟩ => by rw [(sameB_iff s t).2 (hs a)] at b; cases b)]

theorem putE_cases (L : Fct) (z : Nat) : (putE L z = 0 ∧ ¬ (L.1 = 0 ∧ L.2 ≠ zeroB z)) ∨ (putE L z = 4 ∧ L.1 = 0 ∧ L.2 ≠ zeroB z) := by
  unfold putE
  by_cases h : L.1 = 0 ∧ L.2 ≠ zeroB z
  · rw [if_pos h]; exact Or.inr ⟨rfl, h⟩
  · rw [if_neg h]; exact Or.inl ⟨rfl, h⟩

/-- What it has taken, whatever the packet's specification where nothing was taken. -/
theorem CSok.base {s : CS} (h : CSok s) {t : ByteArray} (hs : s.tk = true → (rK t = s.K ∧ rM t = s.M ∧ rO t = s.O ∧ rS t = s.S ∧ rZ t = s.z)) : Rel (rK t) (rM t) (rO t) (rS t) (rZ t) s.kn s.ps ∧ s.ps.length + openK s.kn (rK t) = rK t := by
  cases hk : s.tk with
  | true =>
    obtain ⟨e1, e2, e3, e4, e5⟩ := hs hk
    rw [e1, e2, e3, e4, e5]
    exact ⟨h.rel hk, h.cnt hk⟩
  | false =>
    rw [h.none hk]
    exact ⟨Rel.new _ _ _ _ _, by show 0 + openK kn0 (rK t) = rK t; rw [openK_kn0, Nat.zero_add]⟩

theorem putK_same {kn : Kn} {x : Nat} {p : ByteArray} (h : (left kn x p).1 = 0) : putK kn x p = kn := by unfold putK; rw [if_pos h]

theorem CSok.hear {s : CS} (h : CSok s) (t : ByteArray) : CSok (hearS s t) := by
  by_cases hp : PacketOk t
  · by_cases hs : s.tk = true → (rK t = s.K ∧ rM t = s.M ∧ rO t = s.O ∧ rS t = s.S ∧ rZ t = s.z)
    · obtain ⟨h1, h2, h3, h4, h5, h6, h7⟩ := hp.has
      have he := hearE_put hp hs
      obtain ⟨hr, hc⟩ := h.base hs
      unfold hearS
      rcases putE_cases (hearL s t) (rZ t) with ⟨h0, hn⟩ | ⟨h0, _⟩
      · rw [he, h0, if_pos rfl]
        by_cases hl : (hearL s t).1 = 0
        · rw [if_pos hl, putK_same hl]
          exact ⟨fun _ => ⟨h1, h2, h3, h4, h5⟩, fun _ => hr, fun _ => hc, fun e => by cases e⟩
        · rw [if_neg hl]
          refine ⟨fun _ => ⟨h1, h2, h3, h4, h5⟩, fun _ => hr.push h1.2 h6 h7 hl, fun _ => ?_, fun e => by cases e⟩
          have := openK_put hr.ok h1.2 h7 (ofs_lt (rK t) (rM t) (rO t) (rS t) (rI t)) hl
          show (s.ps ++ [(rI t, rQ t)]).length + openK (putK s.kn (ofs (rK t) (rM t) (rO t) (rS t) (rI t)) (rQ t)) (rK t) = rK t
          rw [List.length_append]
          simp
          omega
      · rw [he, h0, if_neg (by decide)]; exact h
    · have hk : s.tk = true := Classical.byContradiction (fun hk => hs (fun e => absurd e hk))
      rw [(hearE_other hp hk (fun e => hs (fun _ => e))).2]; exact h
  · rw [(hearE_no hp).2]; exact h

theorem ofs_zero : ofs 0 0 0 0 = fun _ => 0 := funext fun j => ofTo_above 0 0 0 0 0 j (by omega)

/-- The program's catcher goes by it. -/
def ProgCat (w : World) (p o Ln : Nat) (tt : TypeId) (hh : Nat → Value) (s : CS) : Prop := CatOff w p o Ln tt hh s.tk s.K s.M s.O s.S s.z (s.K + s.M) (ofs s.K s.M s.O s.S) s.kn

theorem ProgCat.zero (w : World) (p o Ln : Nat) (tt : TypeId) (hh : Nat → Value) : ProgCat w p o Ln tt hh CS.zero = CatNone w p o Ln tt hh := by
  show CatOff w p o Ln tt hh false 0 0 0 0 0 (0 + 0) (ofs 0 0 0 0) kn0 = _
  rw [ofs_zero]

theorem ProgCat.has {w : World} {p o Ln : Nat} {tt : TypeId} {hh : Nat → Value} {s : CS} (h : ProgCat w p o Ln tt hh s) (hk : s.tk = true) : CatHas w p o Ln tt hh s.K s.M s.O s.S s.z s.kn := by
  unfold ProgCat at h
  rwa [hk] at h

theorem ohear_any (p o Ln : Nat) (tt : TypeId) (hh : Nat → Value) (s : CS) (t : ByteArray) (w : World) (hc : ProgCat w p o Ln tt hh s) (hs : CSok s) :
    Calls Try.prog 74 #[.pointer (some ⟨p, o, none⟩), .string t] w fun e w' => e = .returned (.int .i64 (hearE s t)) ∧ ProgCat w' p o Ln tt hh (hearS s t) ∧ Chg (fun k => k = p) w w' := by
  by_cases hp : PacketOk t
  · obtain ⟨h1, h2, h3, h4, h5, h6, h7⟩ := hp.has
    cases hk : s.tk with
    | false =>
      have hz := hs.none hk
      subst hz
      have he : hearE CS.zero t = putE (left kn0 (ofs (rK t) (rM t) (rO t) (rS t) (rI t)) (rQ t)) (rZ t) := hearE_put hp (fun e => by cases e)
      rw [ProgCat.zero] at hc
      refine (ohear_first p o Ln tt hh t w hp hc).mono fun e w' ⟨ha, hb, hb2, hcg⟩ => ⟨by rw [he]; exact ha, ?_, hcg⟩
      unfold hearS
      by_cases h0 : hearE CS.zero t = 0
      · rw [if_pos h0]; exact hb (by rw [← he]; exact h0)
      · rw [if_neg h0, ProgCat.zero]; exact hc.on (Nat.le_refl _) (hb2 (by rw [← he]; exact h0))
    | true =>
      have hc2 := hc.has hk
      by_cases hsm : rK t = s.K ∧ rM t = s.M ∧ rO t = s.O ∧ rS t = s.S ∧ rZ t = s.z
      · have he : hearE s t = putE (left s.kn (ofs (rK t) (rM t) (rO t) (rS t) (rI t)) (rQ t)) (rZ t) := hearE_put hp (fun _ => hsm)
        obtain ⟨e1, e2, e3, e4, e5⟩ := hsm
        have hr := (hs.rel hk).ok
        rw [← e1, ← e2, ← e3, ← e4, ← e5] at hc2
        rw [← e1, ← e5] at hr
        refine (ohear_put p o Ln tt hh s.kn t w hp hr hc2).mono fun e w' ⟨ha, hb, hcg⟩ => ⟨by rw [he]; exact ha, ?_, hcg⟩
        unfold hearS
        rcases putE_cases (hearL s t) (rZ t) with ⟨h0, _⟩ | ⟨h0, hl, _⟩
        · rw [if_pos (by rw [he]; exact h0)]; exact hb
        · rw [if_neg (by rw [he]; intro e; rw [show putE (left s.kn (ofs (rK t) (rM t) (rO t) (rS t) (rI t)) (rQ t)) (rZ t) = 4 from h0] at e; cases e)]
          rw [putK_same hl, e1, e2, e3, e4, e5] at hb
          unfold ProgCat
          rw [hk]
          exact hb
      · obtain ⟨he, hst⟩ := hearE_other hp hk hsm
        rw [he, hst]
        have hc3 := hc2
        exact (ohear_other p o Ln tt hh s.K s.M s.O s.S s.z (s.K + s.M) (ofs s.K s.M s.O s.S) s.kn t w hp hc2 hsm).mono fun e w' ⟨ha, hb⟩ => ⟨ha, CatOff.on hc (Nat.le_refl _) hb, Chg.of_below hb _⟩
  · obtain ⟨he, hst⟩ := hearE_no (s := s) hp
    rw [he, hst]
    exact (ohear_no _ t w hp).mono fun e w' ⟨ha, hb⟩ => ⟨ha, CatOff.on hc (Nat.le_refl _) hb, Chg.of_below hb _⟩

theorem owants_any (p o Ln : Nat) (tt : TypeId) (hh : Nat → Value) (s : CS) (w : World) (hc : ProgCat w p o Ln tt hh s) (hs : CSok s) :
    Calls Try.prog 73 #[.pointer (some ⟨p, o, none⟩)] w fun e w' => e = .returned (.int .i64 (wantE s)) ∧ w' = w := by
  unfold wantE
  cases hk : s.tk with
  | false =>
    have hz := hs.none hk
    subst hz
    rw [ProgCat.zero] at hc
    exact pwants_none p o Ln tt hh w hc
  | true =>
    exact pwants_has p o Ln tt hh s.K s.M s.O s.S s.z s.kn w (hs.spec hk).hK.2 (hc.has hk)

theorem csG_size {s : CS} (hs : CSok s) (hk : s.tk = true) (i : Nat) : (csG s i).1.size = s.z := (left_ok (hs.rel hk).ok (ofs s.K s.M s.O s.S i) (zeroB s.z) (zeroB_size s.z)).size

theorem oobj_any (p o Ln : Nat) (tt : TypeId) (hh : Nat → Value) (s : CS) (w : World) (hc : ProgCat w p o Ln tt hh s) (hs : CSok s) :
    Calls Try.prog 72 #[.pointer (some ⟨p, o, none⟩)] w fun e w' => e = .returned (.tuple #[.string (objE s).1, .int .i64 (objE s).2]) ∧ Below w.heap.size w w' := by
  unfold objE
  cases hk : s.tk with
  | false =>
    have hz := hs.none hk
    subst hz
    rw [ProgCat.zero] at hc
    rw [if_neg (by simp)]
    exact (pobj_none p o Ln tt hh w hc).mono fun e w' ⟨h1, h2⟩ => ⟨h1, by rw [h2]; exact Below.refl _ _⟩
  | true =>
    have sp := hs.spec hk
    refine (pobj_has p o Ln tt hh s.K s.M s.O s.S s.z s.kn (csG s) (joinTo (csG s) s.K) w sp.hK sp.hM.2 (hs.rel hk).ok sp.hz (hc.has hk) (fun i _ => decide_eq_true_iff) (fun _ _ => rfl) (csG_size hs hk) rfl).mono fun e w' ⟨⟨h1, h2, h3⟩, hb⟩ => ⟨?_, hb⟩
    by_cases ha : csAll s = true
    · rw [if_pos ⟨rfl, ha⟩]
      cases ho : objOk (joinTo (csG s) s.K) with
      | true => rw [if_pos rfl]; exact h1 ((csAll_iff s).1 ha) ho
      | false => rw [if_neg (by simp)]; exact h2 ((csAll_iff s).1 ha) ho
    · rw [if_neg (fun h => ha h.2)]
      exact h3 (fun h => ha ((csAll_iff s).2 h))

/-- Its blocks. -/
def fpD (r b : Nat) (av pv : Value) (s : CS) (k : Nat) : Prop := k = r ∨ (s.tk = true ∧ fpR b av pv k)

theorem joinTo_congr (F G : Nat → ByteArray × Bool) (n : Nat) (h : ∀ i, i < n → (F i).1 = (G i).1) : joinTo F n = joinTo G n := by
  induction n with
  | zero => rfl
  | succ n ih =>
    show joinTo F n ++ (F n).1 = joinTo G n ++ (G n).1
    rw [ih (fun i hi => h i (by omega)), h n (by omega)]

end Go.Proofs.Ytnjaofkieajnlaa

/- The program's data of an object. -/
namespace Go.Proofs.Ytnjaofkieajnlaa
open Go.RowKit

/-- How long a slice is. -/
def lenS (v : Value) : Nat := match v with
  | .slice _ n _ => n
  | _ => 0

/-- Some of a row's bytes, as a text. -/
theorem conv_part (B : ByteArray) (g n c base m k c2 : Nat) (w : World) (h : w.ownsRow base 5 1 (.slice (some ⟨g, 0, none⟩) n c) n (bytesV B)) (hm : m + k ≤ B.size) : (convert 53 9 (.slice (some ⟨g, m, none⟩) k c2)).run Try.prog w = .ok (.string (B.extract m (m + k))) w := by
  have hcell := h.cells (g := g) rfl
  have hsz : (B.extract m (m + k)).size = k := by rw [ByteArray.size_extract]; omega
  have hcells : ∀ j, j < k → w.cell? ⟨g, m + j, none⟩ = some (.int .u8 ((numsB (B.extract m (m + k))).getD j 0)) := fun j hj => by
    rw [numsB_getD]
    have h1 := hcell (m + j) _ (bytesV_getElem B (m + j) (by omega))
    rw [Addr.add_mid, Nat.zero_add] at h1
    rw [h1]
    have : byteAt (B.extract m (m + k)) j = byteAt B (m + j) := by
      rw [← byteAt_get _ _ (show j < (B.extract m (m + k)).size by omega), ← byteAt_get _ _ (show m + j < B.size by omega)]
      rw [ByteArray.getElem_extract]
    rw [this]
  have hcv := run_convert_bytes_arg (P := Try.prog) w 53 5 Try.underlying53 Try.underlying5 g m k c2 (numsB (B.extract m (m + k))) (by rw [numsB_length]; exact hsz) hcells 9 Try.underlying9
  rw [strOfNums_numsB] at hcv
  exact hcv

set_option maxRecDepth 100000 in
set_option maxHeartbeats 8000000 in
theorem pdata_any (K z N : Nat) (o : ByteArray) (w : World) (hz : 1 ≤ z ∧ z ≤ 16) (hK : 1 ≤ K ∧ K ≤ 20) (hN : N = K * z) (ho : o.size + 2 ≤ N) :
    Calls Try.prog 79 #[.int .i64 (K : Int), .int .i64 (z : Int), .string o] w fun e w' => ∃ v, e = .returned v ∧ w'.ownsRow w.heap.size 9 1 v K (textV (cutTo (objT N o) z K)) ∧ Below w.heap.size w w' := by
  have hN2 : N ≤ 320 := by rw [hN]; exact Nat.le_trans (Nat.mul_le_mul hK.2 hz.2) (by decide)
  have hmul : (K : Int) * (z : Int) = (N : Int) := by rw [hN]; simp
  have hm1 : 0 ≤ (K : Int) * (z : Int) := by rw [hmul]; omega
  have hm2 : (K : Int) * (z : Int) ≤ 320 := by rw [hmul]; omega
  obtain ⟨i0, hi0, hz0, hz1, hz2⟩ := info_parts Try.infoByte
  obtain ⟨j0, gi, gz0, gz1, gz2⟩ := info_parts Try.infoText
  have hmk : ∀ w, (Instr.makeSlice 53 (.int .i64 0) (.int .i64 ((K : Int) * (z : Int)))).run Try.prog w = .ok (.slice (some ⟨w.heap.size, 0, none⟩) 0 N) (w.alloc (.cells (madeCells #[.int .u8 0] N) 5)) := fun w => by
    rw [hmul]; exact run_make_byteRow N (by omega) w
  have hmk2 := run_make_texts K (by omega)
  have hob : objT N o = lenB o.size ++ o ++ zeroB (N - (2 + o.size)) := rfl
  have hos : (objT N o).size = N := objT_size N o ho
  have n1 : bytesV (lenB o.size) = [.int .u8 ((o.size % 256 : Nat) : Int), .int .u8 ((o.size / 256 : Nat) : Int)] := by
    unfold bytesV; rw [numsB_len o.size (by omega)]; rfl
  have hls : (lenB o.size).size = 2 := rfl
  generalize lenB o.size = lb at *
  generalize objT N o = T at *
  have HO := hide hob
  have HM := hide hmul
  have HN := hide hN
  have N1 := hide n1
  clear hob hmul hN n1
  go_enter Try.func79, Try.ntmps79
  go_upto_region 2 with fail
  have hbA : Below w.heap.size w (w.alloc (.cells (madeCells #[.int .u8 0] N) 5)) := (Below.refl _ _).alloc (Nat.le_refl _) _
  have hown : (w.alloc (.cells (madeCells #[.int .u8 0] N) 5)).ownsRow w.heap.size 5 1 (.slice (some ⟨w.heap.size, 0, none⟩) 0 N) 0 [] := World.ownsRow_made (base := w.heap.size) (e := 5) (size := 1) w (madeCells #[.int .u8 0] N) N (Nat.le_refl _) (by unfold maxLen; omega) (by simp [size_madeCells])
  have hsz : w.heap.size ≤ (w.alloc (.cells (madeCells #[.int .u8 0] N) 5)).heap.size := by simp
  generalize w.alloc (.cells (madeCells #[.int .u8 0] N) 5) = W at *
  clear hmk
  go_wp2_with (at_builtin; refine wpList_append_lies _ rfl (.tmp 15) (.tmp 24) 53 rfl w.heap.size 5 i0 (.int .u8 0) 1 1 Try.underlying53 hi0 hz0 hz1 hz2 rfl (by decide) _ _ _ rfl (hown.alloc _) ⟨W.heap.size, 0, none⟩ 2 2 (bytesV lb) rfl (by rw [bytesV_len, hls]) (byte_news W lb _ (by rw [N1.out]; rfl)) (bytesV_one lb) (by decide) (by unfold maxLen; omega) (by omega) (by simp; omega) (W.heap.size + 1) (by simp) ?_)
  intro g1 k1 W1 hown1 hgr1 hat1 hlt1
  have hb1 := below_own hown hgr1 hsz
  have hbA1 := hbA.trans hb1
  have hown1' : W1.ownsRow w.heap.size 5 1 (.slice (some ⟨g1, 0, none⟩) 2 k1) 2 (bytesV lb) := hown1
  clear hown hgr1 hat1 hlt1 hbA hb1 hown1 hsz N1
  have hsz1 := hbA1.size
  go_wp2_with (at_builtin; refine Go.Lib.wpList_append_own_string _ rfl (.tmp 26) (.tmp 27) 53 9 rfl w.heap.size 5 i0 Try.underlying53 Try.underlying9 hi0 hz0 hz1 hz2 _ _ _ rfl hown1' o rfl (by unfold maxLen; omega) (by omega) (by omega) ?_)
  intro v2 W2 hown2 hgr2 hn2
  have hb2 := below_ownS hown1' hgr2 hsz1
  have hbA2 := hbA1.trans hb2
  rw [bytesV_str, ← bytesV_app] at hown2
  obtain ⟨g2, k2, rfl, hg2, hgl2⟩ := hown2.form (by omega)
  clear hown1' hgr2 hn2 hbA1 hb2 hsz1
  have hts : (lb ++ o).size = 2 + o.size := by rw [ByteArray.size_append, hls]
  generalize lb ++ o = t0 at *
  go_wp2_with fail
  go_loopw [7] (fun tv wr => ∃ (k g c : Nat), 2 + o.size + k ≤ N ∧ tv = .slice (some ⟨g, 0, none⟩) (2 + o.size + k) c ∧ wr.ownsRow w.heap.size 5 1 tv (2 + o.size + k) (bytesV (t0 ++ zeroB k)) ∧ Below w.heap.size w wr) (fun tv _ => N - lenS tv)
  case atStart => exact ⟨0, g2, k2, by omega, rfl, by rw [show zeroB 0 = ByteArray.empty from rfl, ByteArray.append_empty]; exact hown2, hbA2⟩
  case round =>
    clear hown2 hbA2 hg2 hgl2
    obtain ⟨k, g, c, hk1, rfl, hown, hbw⟩ := hrel
    have hsw := hbw.size
    by_cases hlt : 2 + o.size + k < N
    · have hc1 : ((2 : Int) + (o.size : Int) + (k : Int)) < (K : Int) * (z : Int) := by rw [HM.out]; omega
      have hps := pad_succ t0 k
      have Hps := hide hps
      have n5 : bytesV ⟨#[0]⟩ = [.int .u8 0] := rfl
      have s5 : (ByteArray.mk #[0]).size = 1 := rfl
      have N5 := hide n5
      clear hps n5
      generalize ByteArray.mk #[0] = B5 at *
      go_wp2_with (at_builtin; refine wpList_append_lies _ rfl (.tmp 35) (.tmp 36) 53 rfl w.heap.size 5 i0 (.int .u8 0) 1 1 Try.underlying53 hi0 hz0 hz1 hz2 rfl (by decide) _ _ _ rfl (hown.alloc _) ⟨wr.heap.size, 0, none⟩ 1 1 (bytesV B5) rfl (by rw [bytesV_len, s5]) (byte_news wr B5 _ (by rw [N5.out])) (bytesV_one B5) (by decide) (by unfold maxLen; omega) (by omega) (by simp; omega) (wr.heap.size + 1) (by simp) ?_)
      intro g3 k3 W3 hown3 hgr3 hat3 hlt3
      have hb3 := below_own hown hgr3 hsw
      have hbw3 := hbw.trans hb3
      rw [← bytesV_app, Hps.out] at hown3
      clear hgr3 hat3 hlt3 hb3 hbw hown
      go_wp2_with fail
      go_roundw
      case rel => exact ⟨k + 1, g3, k3, by omega, rfl, hown3, hbw3⟩
      case measure => simp only [lenS]; omega
    · have hc1 : ¬ ((2 : Int) + (o.size : Int) + (k : Int)) < (K : Int) * (z : Int) := by rw [HM.out]; omega
      have hkN : k = N - (2 + o.size) := by omega
      have hT : t0 ++ zeroB k = T := by rw [hkN]; exact HO.out.symm
      rw [hT] at hown
      have hlN : 2 + o.size + k = N := by omega
      rw [hlN] at hown ⊢
      clear HO hT hkN hlt hlN hk1 hc1
      have hc1 : ¬ (N : Int) < (K : Int) * (z : Int) := by rw [HM.out]; omega
      have hcap : N ≤ c := by
        rcases hown.2 with ⟨h, _⟩ | ⟨g', c', cur, h, _, _, hc, _⟩
        · cases h
        · injection h with h1 h2 h3; omega
      have hgw : g < wr.heap.size := (hown.lt g rfl).2
      go_upto_region 7 with fail
      have hst : (wr.alloc (.cells (madeCells #[.string ByteArray.empty] K) 9)).ownsRow wr.heap.size 9 1 (.slice (some ⟨wr.heap.size, 0, none⟩) 0 K) 0 (textV (cutTo T z 0)) := World.ownsRow_made (base := wr.heap.size) (e := 9) (size := 1) wr (madeCells #[.string ByteArray.empty] K) K (Nat.le_refl _) (by unfold maxLen; omega) (by simp [size_madeCells])
      have hbS : Below wr.heap.size wr (wr.alloc (.cells (madeCells #[.string ByteArray.empty] K) 9)) := (Below.refl _ _).alloc (Nat.le_refl _) _
      generalize wr.alloc (.cells (madeCells #[.string ByteArray.empty] K) 9) = W5 at *
      clear hmk2
      obtain ⟨V, hV⟩ : ∃ V, V = wr := ⟨_, rfl⟩
      rw [← hV] at hown hst hbS hbw hsw hgw
      rw [← hV]
      clear hV
      go_wp2_with fail
      go_loopw [8, 9] (fun dv iv wi => ∃ j : Nat, j ≤ K ∧ iv = .int .i64 (j : Int) ∧ wi.ownsRow V.heap.size 9 1 dv j (textV (cutTo T z j)) ∧ Below V.heap.size V wi) (fun _ iv _ => K - (intOf iv).toNat)
      case atStart => exact ⟨0, Nat.zero_le _, rfl, hst, hbS⟩
      case round =>
        clear hst hbS
        obtain ⟨j, hj, rfl, hod, hbi⟩ := hrel
        by_cases hjK : j < K
        · have hjm : (j : Int) * (z : Int) = ((j * z : Nat) : Int) := by simp
          have hmz : j * z + z ≤ N := by rw [HN.out, ← Nat.succ_mul]; exact Nat.mul_le_mul_right z hjK
          have hcut : cutTo T z (j + 1) = cutTo T z j ++ [T.extract (j * z) (j * z + z)] := rfl
          have Hcut := hide hcut
          have j1 : 0 ≤ (j : Int) * (z : Int) := by rw [hjm]; omega
          have j2 : (j : Int) * (z : Int) ≤ 320 := by rw [hjm]; omega
          have hown2 := owns_of_block (w' := wr) hown (fun k hk => hbi.block k (hown.lt k hk).2)
          have hcv := conv_part T g N c w.heap.size (j * z) z (c - j * z) wr hown2 (by rw [hos]; exact hmz)
          have HJ := hide hjm
          clear hcut hjm
          go_upto_region 11 with fail
          rw [HJ.out]
          clear j1 j2 HJ
          generalize j * z = m at *
          have hsi := Nat.le_trans (Nat.le_refl _) hbi.size
          go_wp2_with (at_builtin; refine wpList_append_lies _ rfl (.tmp 48) (.tmp 56) 28 rfl V.heap.size 9 j0 (.string ByteArray.empty) 1 16 Try.underlying28 gi gz0 gz1 gz2 rfl (by decide) _ _ _ rfl (hod.alloc _) ⟨wr.heap.size, 0, none⟩ 1 1 [.string (T.extract m (m + z))] rfl rfl (one_news _ _ _) (one_oneCell rfl) (by decide) (by unfold maxLen; omega) (by omega) (by simp; omega) (wr.heap.size + 1) (by simp) ?_)
          intro g6 k6 W6 hown6 hgr6 hat6 hlt6
          have hb6 := below_own hod hgr6 hsi
          have hbi6 := hbi.trans hb6
          clear hgr6 hat6 hlt6 hb6 hbi hod hown2 hcv
          go_wp2_with fail
          go_roundw
          case rel => exact ⟨j + 1, by omega, by go_num, by rw [Hcut.out, textV_append]; exact hown6, hbi6⟩
          case measure => simp [intOf]; omega
        · have hjj : j = K := by omega
          subst hjj
          have hff := hbw.trans (hbi.mono hsw)
          have hof := owns_low hod hsw
          go_wp2_with fail
          go_ret
          exact ⟨_, rfl, hof, hff⟩

end Go.Proofs.Ytnjaofkieajnlaa

/- The program's Room. -/
namespace Go.Proofs.Ytnjaofkieajnlaa
open Go.RowKit

set_option maxRecDepth 100000 in
set_option maxHeartbeats 4000000 in
theorem room_any (K z : Nat) (w : World) (hK : K ≤ 20) (hz : z ≤ 16) :
    Calls Try.prog 78 #[.int .i64 (K : Int), .int .i64 (z : Int)] w fun e w' => e = .returned (.int .i64 ((K : Int) * (z : Int) - 2)) ∧ w' = w := by
  have hN2 : K * z ≤ 320 := Nat.le_trans (Nat.mul_le_mul hK hz) (by decide)
  have hmul : (K : Int) * (z : Int) = ((K * z : Nat) : Int) := by simp
  have hm1 : 0 ≤ (K : Int) * (z : Int) := by rw [hmul]; omega
  have hm2 : (K : Int) * (z : Int) ≤ 320 := by rw [hmul]; omega
  clear hmul hN2
  go_enter Try.func78, Try.ntmps78
  go_wp2_with fail
  go_ret
  exact ⟨rfl, rfl⟩

end Go.Proofs.Ytnjaofkieajnlaa

/- The document's own Send, where it refuses. -/
namespace Go.Proofs.Ytnjaofkieajnlaa
open Go.RowKit

set_option maxRecDepth 100000 in
set_option maxHeartbeats 4000000 in
theorem rsend_bad (K M O S z : Int) (o : ByteArray) (w : World) (hmay : mayB K M O S = false) :
    Calls Try.prog 42 #[specV K M O S, .int .i64 z, .string o] w fun e w' => e = .returned (.tuple #[.slice none 0 0, .int .i64 1]) ∧ Below w.heap.size w w' := by
  have hma := fun W => may_below K M O S W
  rw [hmay] at hma
  have hbA : Below w.heap.size w (w.alloc (.cells #[.int .i64 K, .int .i64 M, .int .i64 O, .int .i64 S] 23)) := (Below.refl _ _).alloc (Nat.le_refl _) _
  go_enter Try.func42, Try.ntmps42
  go_wp2_with fail
  refine (hma _).mono ?_
  rintro e w1 ⟨rfl, hb1⟩
  have hbw1 := hbA.trans (hb1.mono hbA.size)
  go_wp2_with fail
  go_ret2
  exact ⟨rfl, hbw1⟩

set_option maxRecDepth 100000 in
set_option maxHeartbeats 4000000 in
theorem rsend_arg (K M O S z : Int) (o : ByteArray) (w : World) (hmay : mayB K M O S = true) (hz : z < 1 ∨ (1 ≤ z ∧ 16 < z)) :
    Calls Try.prog 42 #[specV K M O S, .int .i64 z, .string o] w fun e w' => e = .returned (.tuple #[.slice none 0 0, .int .i64 2]) ∧ Below w.heap.size w w' := by
  have hma := fun W => may_below K M O S W
  rw [hmay] at hma
  have hbA : Below w.heap.size w (w.alloc (.cells #[.int .i64 K, .int .i64 M, .int .i64 O, .int .i64 S] 23)) := (Below.refl _ _).alloc (Nat.le_refl _) _
  rcases hz with hz | hz
  all_goals
    go_enter Try.func42, Try.ntmps42
    go_wp2_with fail
    refine (hma _).mono ?_
    rintro e w1 ⟨rfl, hb1⟩
    have hbw1 := hbA.trans (hb1.mono hbA.size)
    go_wp2_with fail
    go_ret2
    exact ⟨rfl, hbw1⟩

set_option maxRecDepth 100000 in
set_option maxHeartbeats 4000000 in
theorem rsend_shape (K M O S z : Nat) (o : ByteArray) (w : World) (hmay : mayB K M O S = true) (hz : 1 ≤ z ∧ z ≤ 16) (ho : K * z < o.size + 2) (hol : o.size + 2 ≤ maxLen) :
    Calls Try.prog 42 #[specV K M O S, .int .i64 (z : Int), .string o] w fun e w' => e = .returned (.tuple #[.slice none 0 0, .int .i64 3]) ∧ Below w.heap.size w w' := by
  have hKK := mayB_true hmay
  have hK : 1 ≤ K ∧ K ≤ 20 := by omega
  clear hKK
  have hN2 : K * z ≤ 320 := Nat.le_trans (Nat.mul_le_mul hK.2 hz.2) (by decide)
  have hmul : (K : Int) * (z : Int) = ((K * z : Nat) : Int) := by simp
  have hm1 : 0 ≤ (K : Int) * (z : Int) := by rw [hmul]; omega
  have hm2 : (K : Int) * (z : Int) ≤ 320 := by rw [hmul]; omega
  have hc1 : (K : Int) * (z : Int) < (o.size : Int) + 2 := by rw [hmul]; omega
  unfold maxLen at hol
  clear hmul
  have hma := fun W => may_below K M O S W
  rw [hmay] at hma
  have hsp : (w.alloc (specB K M O S)).heap[w.heap.size]? = some (specB K M O S) := heap_alloc_new w _
  have hbA : Below w.heap.size w (w.alloc (specB K M O S)) := (Below.refl _ _).alloc (Nat.le_refl _) _
  go_enter Try.func42, Try.ntmps42
  go_wp2_with fail
  refine (hma _).mono ?_
  rintro e w1 ⟨rfl, hb1⟩
  have hs1 := block_on hsp hb1
  have hbw1 := hbA.trans (hb1.mono hbA.size)
  clear hsp hbA hb1 hma
  obtain ⟨c0, c1, c2, c3⟩ := spec_cells hs1
  have z1 : ¬ (z : Int) < 1 := by omega
  have z2 : ¬ (16 : Int) < (z : Int) := by omega
  go_wp2_with fail
  go_ret2
  exact ⟨rfl, hbw1⟩

end Go.Proofs.Ytnjaofkieajnlaa
