/- Texts of the proof, part 21. -/
import Derived.Test.YtnjaofkieajnlaaGreatAlluptoG11
import Derived.Test.YtnjaofkieajnlaaGreatAlluptoG14
import Derived.Test.YtnjaofkieajnlaaGreatAlluptoG19
import Derived.Test.YtnjaofkieajnlaaGreatAlluptoG9

/- A catcher as plain mathematics: what it has taken, and what it answers; the program's catcher and the document's both go by it. -/
namespace Go.Proofs.YtnjaofkieajnlaaGreat
open Go.RowKit

/-- What a catcher has taken. -/
structure CS where
  tk : Bool
  K : Nat
  M : Nat
  O : Nat
  S : Nat
  z : Nat
  kn : Kn
  ps : List (Nat × ByteArray)

def CS.zero : CS := ⟨false, 0, 0, 0, 0, 0, kn0, []⟩

structure CSok (s : CS) : Prop where
  spec : s.tk = true → SpecOk s.K s.M s.O s.S s.z
  rel : s.tk = true → Rel s.K s.M s.O s.S s.z s.kn s.ps
  cnt : s.tk = true → s.ps.length + openK s.kn s.K = s.K
  none : s.tk = false → s = CS.zero

theorem CSok.new : CSok CS.zero := ⟨fun h => (by cases h), fun h => (by cases h), fun h => (by cases h), fun _ => rfl⟩

def packetB (p : ByteArray) : Bool := decide (10 ≤ p.size ∧ p.size ≤ 25 ∧ byteAt p 0 = 82 ∧ mayB (rK p) (rM p) (rO p) (rS p) = true ∧ rI p < rK p + rM p ∧ p.size = rZ p + 9 ∧ addTo p p.size = 0)

theorem packetB_iff (p : ByteArray) : packetB p = true ↔ PacketOk p := decide_eq_true_iff

def sameB (s : CS) (t : ByteArray) : Bool := decide (rK t = s.K ∧ rM t = s.M ∧ rO t = s.O ∧ rS t = s.S ∧ rZ t = s.z)

theorem sameB_iff (s : CS) (t : ByteArray) : sameB s t = true ↔ (rK t = s.K ∧ rM t = s.M ∧ rO t = s.O ∧ rS t = s.S ∧ rZ t = s.z) := decide_eq_true_iff

/-- What is left of a packet's piece. -/
def hearL (s : CS) (t : ByteArray) : Fct := left s.kn (ofs (rK t) (rM t) (rO t) (rS t) (rI t)) (rQ t)

/-- What Hear answers. -/
def hearE (s : CS) (t : ByteArray) : Int := if packetB t = false then 6 else if s.tk = true ∧ sameB s t = false then 7 else putE (hearL s t) (rZ t)

/-- What a catcher has taken behind it. -/
def hearS (s : CS) (t : ByteArray) : CS := if hearE s t = 0 then ⟨true, rK t, rM t, rO t, rS t, rZ t, putK s.kn (ofs (rK t) (rM t) (rO t) (rS t) (rI t)) (rQ t), if (hearL s t).1 = 0 then s.ps else s.ps ++ [(rI t, rQ t)]⟩ else s

/-- What is told of a piece of data. -/
def csG (s : CS) (i : Nat) : ByteArray × Bool := ((left s.kn (ofs s.K s.M s.O s.S i) (zeroB s.z)).2, decide ((left s.kn (ofs s.K s.M s.O s.S i) (zeroB s.z)).1 = 0))

def csAll (s : CS) : Bool := (List.range s.K).all (fun j => (csG s j).2)

theorem csAll_iff (s : CS) : csAll s = true ↔ ∀ j, j < s.K → (csG s j).2 = true := by
  unfold csAll
  rw [List.all_eq_true]
  exact ⟨fun h j hj => h j (List.mem_range.2 hj), fun h j hj => h j (List.mem_range.1 hj)⟩

/-- What Object answers. -/
def objE (s : CS) : ByteArray × Int := if s.tk = true ∧ csAll s = true then (if objOk (joinTo (csG s) s.K) = true then (objText (joinTo (csG s) s.K), 0) else (⟨#[]⟩, 8)) else (⟨#[]⟩, 5)

/-- What Wants answers. -/
def wantE (s : CS) : Int := if s.tk = true then (openK s.kn s.K : Int) else -1

theorem hearE_no {s : CS} {t : ByteArray} (h : ¬ PacketOk t) : hearE s t = 6 ∧ hearS s t = s := by
  have hb : packetB t = false := by
    cases hp : packetB t with
    | false => rfl
    | true => exact absurd ((packetB_iff t).1 hp) h
  have he : hearE s t = 6 := by unfold hearE; rw [if_pos hb]
  exact ⟨he, by unfold hearS; rw [he, if_neg (by decide)]⟩

theorem hearE_other {s : CS} {t : ByteArray} (h : PacketOk t) (hk : s.tk = true) (hs : ¬ (rK t = s.K ∧ rM t = s.M ∧ rO t = s.O ∧ rS t = s.S ∧ rZ t = s.z)) : hearE s t = 7 ∧ hearS s t = s := by
  have hb : sameB s t = false := by
    cases hp : sameB s t with
    | false => rfl
    | true => exact absurd ((sameB_iff s t).1 hp) hs
  have he : hearE s t = 7 := by unfold hearE; rw [if_neg (by rw [(packetB_iff t).2 h]; simp), if_pos ⟨hk, hb⟩]
  exact ⟨he, by unfold hearS; rw [he, if_neg (by decide)]⟩

theorem hearE_put {s : CS} {t : ByteArray} (h : PacketOk t) (hs : s.tk = true → (rK t = s.K ∧ rM t = s.M ∧ rO t = s.O ∧ rS t = s.S ∧ rZ t = s.z)) : hearE s t = putE (hearL s t) (rZ t) := by
  unfold hearE
  rw [if_neg (by rw [(packetB_iff t).2 h]; simp), if_neg (fun ⟨a, b⟩ => by rw [(sameB_iff s t).2 (hs a)] at b; cases b)]

theorem putE_cases (L : Fct) (z : Nat) : (putE L z = 0 ∧ ¬ (L.1 = 0 ∧ L.2 ≠ zeroB z)) ∨ (putE L z = 4 ∧ L.1 = 0 ∧ L.2 ≠ zeroB z) := by
  unfold putE
  by_cases h : L.1 = 0 ∧ L.2 ≠ zeroB z
  · rw [if_pos h]; exact Or.inr ⟨rfl, h⟩
  · rw [if_neg h]; exact Or.inl ⟨rfl, h⟩

/-- What it has taken, whatever the packet's specification where nothing was taken. -/
theorem CSok.base {s : CS} (h : CSok s) {t : ByteArray} (hs : s.tk = true → (rK t = s.K ∧ rM t = s.M ∧ rO t = s.O ∧ rS t = s.S ∧ rZ t = s.z)) : Rel (rK t) (rM t) (rO t) (rS t) (rZ t) s.kn s.ps ∧ s.ps.length + openK s.kn (rK t) = rK t := by
  cases hk : s.tk with
  | true =>
    obtain ⟨e1, e2, e3, e4, e5⟩ := hs hk
    rw [e1, e2, e3, e4, e5]
    exact ⟨h.rel hk, h.cnt hk⟩
  | false =>
    rw [h.none hk]
    exact ⟨Rel.new _ _ _ _ _, by show 0 + openK kn0 (rK t) = rK t; rw [openK_kn0, Nat.zero_add]⟩

theorem putK_same {kn : Kn} {x : Nat} {p : ByteArray} (h : (left kn x p).1 = 0) : putK kn x p = kn := by unfold putK; rw [if_pos h]

theorem CSok.hear {s : CS} (h : CSok s) (t : ByteArray) : CSok (hearS s t) := by
  by_cases hp : PacketOk t
  · by_cases hs : s.tk = true → (rK t = s.K ∧ rM t = s.M ∧ rO t = s.O ∧ rS t = s.S ∧ rZ t = s.z)
    · obtain ⟨h1, h2, h3, h4, h5, h6, h7⟩ := hp.has
      have he := hearE_put hp hs
      obtain ⟨hr, hc⟩ := h.base hs
      unfold hearS
      rcases putE_cases (hearL s t) (rZ t) with ⟨h0, hn⟩ | ⟨h0, _⟩
      · rw [he, h0, if_pos rfl]
        by_cases hl : (hearL s t).1 = 0
        · rw [if_pos hl, putK_same hl]
          exact ⟨fun _ => ⟨h1, h2, h3, h4, h5⟩, fun _ => hr, fun _ => hc, fun e => by cases e⟩
        · rw [if_neg hl]
          refine ⟨fun _ => ⟨h1, h2, h3, h4, h5⟩, fun _ => hr.push h1.2 h6 h7 hl, fun _ => ?_, fun e => by cases e⟩
          have := openK_put hr.ok h1.2 h7 (ofs_lt (rK t) (rM t) (rO t) (rS t) (rI t)) hl
          show (s.ps ++ [(rI t, rQ t)]).length + openK (putK s.kn (ofs (rK t) (rM t) (rO t) (rS t) (rI t)) (rQ t)) (rK t) = rK t
          rw [List.length_append]
          simp
          omega
      · rw [he, h0, if_neg (by decide)]; exact h
    · have hk : s.tk = true := Classical.byContradiction (fun hk => hs (fun e => absurd e hk))
      rw [(hearE_other hp hk (fun e => hs (fun _ => e))).2]; exact h
  · rw [(hearE_no hp).2]; exact h

theorem ofs_zero : ofs 0 0 0 0 = fun _ => 0 := funext fun j => ofTo_above 0 0 0 0 0 j (by omega)

/-- The program's catcher goes by it. -/
def ProgCat (w : World) (p o Ln : Nat) (tt : TypeId) (hh : Nat → Value) (s : CS) : Prop := CatOff w p o Ln tt hh s.tk s.K s.M s.O s.S s.z (s.K + s.M) (ofs s.K s.M s.O s.S) s.kn

theorem ProgCat.zero (w : World) (p o Ln : Nat) (tt : TypeId) (hh : Nat → Value) : ProgCat w p o Ln tt hh CS.zero = CatNone w p o Ln tt hh := by
  show CatOff w p o Ln tt hh false 0 0 0 0 0 (0 + 0) (ofs 0 0 0 0) kn0 = _
  rw [ofs_zero]

theorem ProgCat.has {w : World} {p o Ln : Nat} {tt : TypeId} {hh : Nat → Value} {s : CS} (h : ProgCat w p o Ln tt hh s) (hk : s.tk = true) : CatHas w p o Ln tt hh s.K s.M s.O s.S s.z s.kn := by
  unfold ProgCat at h
  rwa [hk] at h

theorem ohear_any (p o Ln : Nat) (tt : TypeId) (hh : Nat → Value) (s : CS) (t : ByteArray) (w : World) (hc : ProgCat w p o Ln tt hh s) (hs : CSok s) :
    Calls Tryz.prog 58 #[.pointer (some ⟨p, o, none⟩), .string t] w fun e w' => e = .returned (.int .i64 (hearE s t)) ∧ ProgCat w' p o Ln tt hh (hearS s t) ∧ Chg (fun k => k = p) w w' := by
  by_cases hp : PacketOk t
  · obtain ⟨h1, h2, h3, h4, h5, h6, h7⟩ := hp.has
    cases hk : s.tk with
    | false =>
      have hz := hs.none hk
      subst hz
      have he : hearE CS.zero t = putE (left kn0 (ofs (rK t) (rM t) (rO t) (rS t) (rI t)) (rQ t)) (rZ t) := hearE_put hp (fun e => by cases e)
      rw [ProgCat.zero] at hc
      refine (ohear_first p o Ln tt hh t w hp hc).mono fun e w' ⟨ha, hb, hb2, hcg⟩ => ⟨by rw [he]; exact ha, ?_, hcg⟩
      unfold hearS
      by_cases h0 : hearE CS.zero t = 0
      · rw [if_pos h0]; exact hb (by rw [← he]; exact h0)
      · rw [if_neg h0, ProgCat.zero]; exact hc.on (Nat.le_refl _) (hb2 (by rw [← he]; exact h0))
    | true =>
      have hc2 := hc.has hk
      by_cases hsm : rK t = s.K ∧ rM t = s.M ∧ rO t = s.O ∧ rS t = s.S ∧ rZ t = s.z
      · have he : hearE s t = putE (left s.kn (ofs (rK t) (rM t) (rO t) (rS t) (rI t)) (rQ t)) (rZ t) := hearE_put hp (fun _ => hsm)
        obtain ⟨e1, e2, e3, e4, e5⟩ := hsm
        have hr := (hs.rel hk).ok
        rw [← e1, ← e2, ← e3, ← e4, ← e5] at hc2
        rw [← e1, ← e5] at hr
        refine (ohear_put p o Ln tt hh s.kn t w hp hr hc2).mono fun e w' ⟨ha, hb, hcg⟩ => ⟨by rw [he]; exact ha, ?_, hcg⟩
        unfold hearS
        rcases putE_cases (hearL s t) (rZ t) with ⟨h0, _⟩ | ⟨h0, hl, _⟩
        · rw [if_pos (by rw [he]; exact h0)]; exact hb
        · rw [if_neg (by rw [he]; intro e; rw [show putE (left s.kn (ofs (rK t) (rM t) (rO t) (rS t) (rI t)) (rQ t)) (rZ t) = 4 from h0] at e; cases e)]
          rw [putK_same hl, e1, e2, e3, e4, e5] at hb
          unfold ProgCat
          rw [hk]
          exact hb
      · obtain ⟨he, hst⟩ := hearE_other hp hk hsm
        rw [he, hst]
        have hc3 := hc2
        exact (ohear_other p o Ln tt hh s.K s.M s.O s.S s.z (s.K + s.M) (ofs s.K s.M s.O s.S) s.kn t w hp hc2 hsm).mono fun e w' ⟨ha, hb⟩ => ⟨ha, CatOff.on hc (Nat.le_refl _) hb, Chg.of_below hb _⟩
  · obtain ⟨he, hst⟩ := hearE_no (s := s) hp
    rw [he, hst]
    exact (ohear_no _ t w hp).mono fun e w' ⟨ha, hb⟩ => ⟨ha, CatOff.on hc (Nat.le_refl _) hb, Chg.of_below hb _⟩

theorem owants_any (p o Ln : Nat) (tt : TypeId) (hh : Nat → Value) (s : CS) (w : World) (hc : ProgCat w p o Ln tt hh s) (hs : CSok s) :
    Calls Tryz.prog 60 #[.pointer (some ⟨p, o, none⟩)] w fun e w' => e = .returned (.int .i64 (wantE s)) ∧ w' = w := by
  unfold wantE
  cases hk : s.tk with
  | false =>
    have hz := hs.none hk
    subst hz
    rw [ProgCat.zero] at hc
    exact pwants_none p o Ln tt hh w hc
  | true =>
    exact pwants_has p o Ln tt hh s.K s.M s.O s.S s.z s.kn w (hs.spec hk).hK.2 (hc.has hk)

theorem csG_size {s : CS} (hs : CSok s) (hk : s.tk = true) (i : Nat) : (csG s i).1.size = s.z := (left_ok (hs.rel hk).ok (ofs s.K s.M s.O s.S i) (zeroB s.z) (zeroB_size s.z)).size

theorem oobj_any (p o Ln : Nat) (tt : TypeId) (hh : Nat → Value) (s : CS) (w : World) (hc : ProgCat w p o Ln tt hh s) (hs : CSok s) :
    Calls Tryz.prog 61 #[.pointer (some ⟨p, o, none⟩)] w fun e w' => e = .returned (.tuple #[.string (objE s).1, .int .i64 (objE s).2]) ∧ Below w.heap.size w w' := by
  unfold objE
  cases hk : s.tk with
  | false =>
    have hz := hs.none hk
    subst hz
    rw [ProgCat.zero] at hc
    rw [if_neg (by simp)]
    exact (pobj_none p o Ln tt hh w hc).mono fun e w' ⟨h1, h2⟩ => ⟨h1, by rw [h2]; exact Below.refl _ _⟩
  | true =>
    have sp := hs.spec hk
    refine (pobj_has p o Ln tt hh s.K s.M s.O s.S s.z s.kn (csG s) (joinTo (csG s) s.K) w sp.hK sp.hM.2 (hs.rel hk).ok sp.hz (hc.has hk) (fun i _ => decide_eq_true_iff) (fun _ _ => rfl) (csG_size hs hk) rfl).mono fun e w' ⟨⟨h1, h2, h3⟩, hb⟩ => ⟨?_, hb⟩
    by_cases ha : csAll s = true
    · rw [if_pos ⟨rfl, ha⟩]
      cases ho : objOk (joinTo (csG s) s.K) with
      | true => rw [if_pos rfl]; exact h1 ((csAll_iff s).1 ha) ho
      | false => rw [if_neg (by simp)]; exact h2 ((csAll_iff s).1 ha) ho
    · rw [if_neg (fun h => ha h.2)]
      exact h3 (fun h => ha ((csAll_iff s).2 h))

/-- The document's catcher goes by it. -/
structure DocCat (w : World) (r b : Nat) (av pv : Value) (s : CS) : Prop where
  no : s.tk = false → w.heap[r]? = some (catB none)
  cat : s.tk = true → w.heap[r]? = some (catB (some ⟨b, 0, none⟩))
  box : s.tk = true → RBoxAt w b s.K s.M s.O s.S s.z av pv s.ps
  nil : s.tk = true → s.ps.length = 0 → av = .slice none 0 0 ∧ pv = .slice none 0 0

/-- Its blocks. -/
def fpD (r b : Nat) (av pv : Value) (s : CS) (k : Nat) : Prop := k = r ∨ (s.tk = true ∧ fpR b av pv k)

theorem DocCat.at {w : World} {r b : Nat} {av pv : Value} {s : CS} (h : DocCat w r b av pv s) : ∃ x, w.heap[r]? = some (catB x) := by
  cases hk : s.tk with
  | false => exact ⟨_, h.no hk⟩
  | true => exact ⟨_, h.cat hk⟩

theorem DocCat.lt {w : World} {r b : Nat} {av pv : Value} {s : CS} (h : DocCat w r b av pv s) {k : Nat} (hk : fpD r b av pv s k) : k < w.heap.size := by
  rcases hk with rfl | ⟨hk, hf⟩
  · obtain ⟨x, hx⟩ := h.at
    exact (Array.getElem?_eq_some_iff.1 hx).1
  · exact (h.box hk).fp_lt hf

theorem DocCat.blocks {w w' : World} {r b : Nat} {av pv : Value} {s : CS} (h : DocCat w r b av pv s) (hb : ∀ k, fpD r b av pv s k → w'.heap[k]? = w.heap[k]?) : DocCat w' r b av pv s :=
  ⟨fun hk => by rw [hb r (Or.inl rfl)]; exact h.no hk, fun hk => by rw [hb r (Or.inl rfl)]; exact h.cat hk, fun hk => (h.box hk).blocks (fun k hf => hb k (Or.inr ⟨hk, hf⟩)), h.nil⟩

theorem DocCat.on {w w' : World} {r b : Nat} {av pv : Value} {s : CS} (h : DocCat w r b av pv s) (hb : Below w.heap.size w w') : DocCat w' r b av pv s :=
  h.blocks (fun k hk => hb.block k (h.lt hk))

/-- The blocks are of four types. -/
theorem DocCat.types {w : World} {r b : Nat} {av pv : Value} {s : CS} (h : DocCat w r b av pv s) {k : Nat} (hk : fpD r b av pv s k) : ∃ cs t, w.heap[k]? = some (.cells cs t (0, 0)) ∧ (t = 47 ∨ t = 70 ∨ t = 3 ∨ t = 9) := by
  rcases hk with rfl | ⟨hk, hf⟩
  · obtain ⟨x, hx⟩ := h.at
    exact ⟨_, _, hx, Or.inl rfl⟩
  · rcases hf with rfl | hf | hf
    · exact ⟨_, _, (h.box hk).box, Or.inr (Or.inl rfl)⟩
    · obtain ⟨c, hc⟩ := owns_block (h.box hk).oa hf
      exact ⟨c, _, hc, Or.inr (Or.inr (Or.inl rfl))⟩
    · obtain ⟨c, hc⟩ := owns_block (h.box hk).op hf
      exact ⟨c, _, hc, Or.inr (Or.inr (Or.inr rfl))⟩

theorem DocCat.parted {w : World} {r b : Nat} {av pv : Value} {s : CS} (h : DocCat w r b av pv s) (hk : s.tk = true) : ¬ fpR b av pv r := fun hf => by
  have hr := h.cat hk
  rcases hf with rfl | hf | hf
  · have := (h.box hk).box
    rw [hr] at this
    simp at this
  · exact owns_other (h.box hk).oa hr (by decide) hf
  · exact owns_other (h.box hk).op hr (by decide) hf

theorem rhear_any (r b : Nat) (av pv : Value) (s : CS) (t : ByteArray) (w : World) (hc : DocCat w r b av pv s) (hs : CSok s) :
    Calls Tryz.prog 33 #[.pointer (some ⟨r, 0, none⟩), .string t] w fun e w' => e = .returned (.int .i64 (hearE s t)) ∧ ∃ b' av' pv', DocCat w' r b' av' pv' (hearS s t) ∧ Chg (fpD r b av pv s) w w' ∧ (∀ k, fpD r b' av' pv' (hearS s t) k → fpD r b av pv s k ∨ w.heap.size ≤ k) := by
  by_cases hp : PacketOk t
  · obtain ⟨h1, h2, h3, h4, h5, h6, h7⟩ := hp.has
    have hrd := rread_ok t hp
    by_cases hsm : s.tk = true → (rK t = s.K ∧ rM t = s.M ∧ rO t = s.O ∧ rS t = s.S ∧ rZ t = s.z)
    · have he := hearE_put hp hsm
      obtain ⟨hr, hcn⟩ := hs.base hsm
      obtain ⟨u1, u2⟩ := hr.put (i := rI t) (p := rQ t) (by omega) h6 h7
      have hS : hearS s t = if hearE s t = 0 then ⟨true, rK t, rM t, rO t, rS t, rZ t, putK s.kn (ofs (rK t) (rM t) (rO t) (rS t) (rI t)) (rQ t), if (hearL s t).1 = 0 then s.ps else s.ps ++ [(rI t, rQ t)]⟩ else s := rfl
      rcases putE_cases (hearL s t) (rZ t) with ⟨h0, hn⟩ | ⟨h0, hl, hne⟩
      · rw [he, h0, if_pos rfl] at hS
        by_cases hl : (hearL s t).1 = 0
        · rw [if_pos hl] at hS
          have htd := u1.2 hl
          have hsay := (u2 hl).1 (Classical.byContradiction (fun x => hn ⟨hl, x⟩))
          cases hk : s.tk with
          | false =>
            have hz := hs.none hk
            subst hz
            refine (rhear_first_told r (rK t) (rM t) (rO t) (rS t) (rZ t) (rI t) t (rQ t) w hrd (hc.no rfl) h1 h2 h3 h4 (by omega) h6 h7 htd hsay).mono fun e w' ⟨ha, b', hb', hcat, hbox, hcg⟩ => ⟨by rw [he, h0]; exact ha, b', .slice none 0 0, .slice none 0 0, ?_, hcg.mono (fun k _ hk => Or.inl hk), ?_⟩
            · rw [hS]
              exact ⟨fun x => (by cases x), fun _ => hcat, fun _ => hbox, fun _ _ => ⟨rfl, rfl⟩⟩
            · rintro k (hk | ⟨_, hk | hk | hk⟩)
              · exact Or.inl (Or.inl hk)
              · right; omega
              · simp [Value.ownBlock] at hk
              · simp [Value.ownBlock] at hk
          | true =>
            obtain ⟨e1, e2, e3, e4, e5⟩ := hsm hk
            have hbx := hc.box hk
            rw [← e1, ← e2, ← e3, ← e4, ← e5] at hbx
            refine (rhear_told r b (rK t) (rM t) (rO t) (rS t) (rZ t) (rI t) av pv s.ps t (rQ t) w hrd (hc.cat hk) hbx (by omega) hr.inn (hc.parted hk) h1 h2 h3 h4 (by omega) h6 h7 htd hsay).mono fun e w' ⟨ha, hcat, hbox, hcg⟩ => ⟨by rw [he, h0]; exact ha, b, av, pv, ?_, hcg.mono (fun k _ hk => Or.inl hk), ?_⟩
            · rw [hS]
              exact ⟨fun x => (by cases x), fun _ => hcat, fun _ => hbox, fun _ h => hc.nil hk h⟩
            · rintro k (hk2 | ⟨_, hk2⟩)
              · exact Or.inl (Or.inl hk2)
              · exact Or.inl (Or.inr ⟨hk, hk2⟩)
        · rw [if_neg hl] at hS
          have htd : (told (boxFacts (rK t) (rM t) (rO t) (rS t) (rZ t) s.ps) (2 ^ rI t) (rZ t)).2 = false := by
            cases hx : (told (boxFacts (rK t) (rM t) (rO t) (rS t) (rZ t) s.ps) (2 ^ rI t) (rZ t)).2 with
            | false => rfl
            | true => exact absurd (u1.1 hx) hl
          cases hk : s.tk with
          | false =>
            have hz := hs.none hk
            subst hz
            refine (rhear_first r (rK t) (rM t) (rO t) (rS t) (rZ t) (rI t) t (rQ t) w hrd (hc.no rfl) h1 h2 h3 h4 (by omega) h6 h7 htd).mono fun e w' ⟨ha, b', av', pv', hb', hcat, hbox, hcg, hnew⟩ => ⟨by rw [he, h0]; exact ha, b', av', pv', ?_, hcg.mono (fun k _ hk => Or.inl hk), ?_⟩
            · rw [hS]
              exact ⟨fun x => (by cases x), fun _ => hcat, fun _ => hbox, fun _ h => by simp at h⟩
            · rintro k (hk | ⟨_, hk⟩)
              · exact Or.inl (Or.inl hk)
              · exact Or.inr (hnew k hk)
          | true =>
            obtain ⟨e1, e2, e3, e4, e5⟩ := hsm hk
            have hbx := hc.box hk
            rw [← e1, ← e2, ← e3, ← e4, ← e5] at hbx
            refine (rhear_next r b (rK t) (rM t) (rO t) (rS t) (rZ t) (rI t) av pv s.ps t (rQ t) w hrd (hc.cat hk) hbx (by omega) hr.inn (hc.parted hk) h1 h2 h3 h4 (by omega) h6 h7 htd).mono fun e w' ⟨ha, av', pv', hcat, hbox, hcg, hnew⟩ => ⟨by rw [he, h0]; exact ha, b, av', pv', ?_, hcg.mono (fun k _ h => h.elim Or.inl (fun h => Or.inr ⟨hk, h⟩)), ?_⟩
            · rw [hS]
              exact ⟨fun x => (by cases x), fun _ => hcat, fun _ => hbox, fun _ h => by simp at h⟩
            · rintro k (hk2 | ⟨_, hk2⟩)
              · exact Or.inl (Or.inl hk2)
              · rcases hnew k hk2 with h | h
                · exact Or.inl (Or.inr ⟨hk, h⟩)
                · exact Or.inr h
      · rw [he, h0, if_neg (by decide)] at hS
        have htd := u1.2 hl
        have hsay : (told (boxFacts (rK t) (rM t) (rO t) (rS t) (rZ t) s.ps) (2 ^ rI t) (rZ t)).1 ≠ rQ t := fun x => hne ((u2 hl).2 x)
        have hfin : ∀ w', Below w.heap.size w w' → ∃ b' av' pv', DocCat w' r b' av' pv' (hearS s t) ∧ Chg (fpD r b av pv s) w w' ∧ (∀ k, fpD r b' av' pv' (hearS s t) k → fpD r b av pv s k ∨ w.heap.size ≤ k) := fun w' hb => ⟨b, av, pv, by rw [hS]; exact hc.on hb, Chg.of_below hb _, fun k hk => Or.inl (by rw [hS] at hk; exact hk)⟩
        cases hk : s.tk with
        | false =>
          have hz := hs.none hk
          subst hz
          exact (rhear_first_contrary r (rK t) (rM t) (rO t) (rS t) (rZ t) (rI t) t (rQ t) w hrd (hc.no rfl) h1 h2 h3 h4 (by omega) h6 h7 htd hsay).mono fun e w' ⟨ha, hb⟩ => ⟨by rw [he, h0]; exact ha, hfin w' hb⟩
        | true =>
          obtain ⟨e1, e2, e3, e4, e5⟩ := hsm hk
          have hbx := hc.box hk
          rw [← e1, ← e2, ← e3, ← e4, ← e5] at hbx
          exact (rhear_contrary r b (rK t) (rM t) (rO t) (rS t) (rZ t) (rI t) av pv s.ps t (rQ t) w hrd (hc.cat hk) hbx (by omega) hr.inn h1 h2 h3 h4 (by omega) h6 h7 htd hsay).mono fun e w' ⟨ha, hb⟩ => ⟨by rw [he, h0]; exact ha, hfin w' hb⟩
    · have hk : s.tk = true := Classical.byContradiction (fun hk => hsm (fun e => absurd e hk))
      obtain ⟨he, hst⟩ := hearE_other hp hk (fun e => hsm (fun _ => e))
      rw [he, hst]
      exact (rhear_other r b (rK t) (rM t) (rO t) (rS t) (rZ t) (rI t) s.K s.M s.O s.S s.z av pv t (rQ t) w hrd (hc.cat hk) (hc.box hk).box (fun ⟨a1, a2, a3, a4, a5⟩ => hsm (fun _ => ⟨a1.symm, a2.symm, a3.symm, a4.symm, a5.symm⟩))).mono fun e w' ⟨ha, hb⟩ => ⟨ha, b, av, pv, hc.on hb, Chg.of_below hb _, fun k h => Or.inl h⟩
  · obtain ⟨he, hst⟩ := hearE_no (s := s) hp
    rw [he, hst]
    exact (rhear_none _ t w (fun W => rread_no t hp W)).mono fun e w' ⟨ha, hb⟩ => ⟨ha, b, av, pv, hc.on hb, Chg.of_below hb _, fun k h => Or.inl h⟩

theorem rwants_any (r b : Nat) (av pv : Value) (s : CS) (w : World) (hc : DocCat w r b av pv s) (hs : CSok s) :
    Calls Tryz.prog 35 #[.pointer (some ⟨r, 0, none⟩)] w fun e w' => e = .returned (.int .i64 (wantE s)) ∧ Below w.heap.size w w' := by
  unfold wantE
  cases hk : s.tk with
  | false => exact rwants_nil r w (hc.no hk)
  | true =>
    have sp := hs.spec hk
    have hl := hs.cnt hk
    have hK := sp.hK
    have hM := sp.hM
    rw [if_pos rfl, ← (hs.rel hk).need sp.hK.2 (by omega)]
    exact rwants_box r b s.K s.M s.O s.S s.z av pv s.ps w (hc.cat hk) sp.hK sp.hM sp.hO sp.hS (by have := sp.hz; omega) (hc.box hk) (by omega) (hs.rel hk).inn (hc.nil hk)

theorem joinTo_congr (F G : Nat → ByteArray × Bool) (n : Nat) (h : ∀ i, i < n → (F i).1 = (G i).1) : joinTo F n = joinTo G n := by
  induction n with
  | zero => rfl
  | succ n ih =>
    show joinTo F n ++ (F n).1 = joinTo G n ++ (G n).1
    rw [ih (fun i hi => h i (by omega)), h n (by omega)]

theorem robj_any (r b : Nat) (av pv : Value) (s : CS) (w : World) (hc : DocCat w r b av pv s) (hs : CSok s) :
    Calls Tryz.prog 37 #[.pointer (some ⟨r, 0, none⟩)] w fun e w' => e = .returned (.tuple #[.string (objE s).1, .int .i64 (objE s).2]) ∧ Below w.heap.size w w' := by
  unfold objE
  cases hk : s.tk with
  | false =>
    rw [if_neg (by simp)]
    exact rcobj_nil r w (hc.no hk)
  | true =>
    have sp := hs.spec hk
    have hl := hs.cnt hk
    have hK := sp.hK
    have hM := sp.hM
    have hge := fun i (hi : i < s.K) => (hs.rel hk).get (i := i) (by omega) (by omega)
    have hT : (∀ j, j < s.K → (csG s j).2 = true) → catTo (gotTo (fun i => told (boxFacts s.K s.M s.O s.S s.z s.ps) (2 ^ i) s.z) s.K) s.K = joinTo (csG s) s.K := fun h => by
      rw [joinTo_cat _ _ _ (Nat.le_refl _)]
      exact joinTo_congr _ _ _ (fun i hi => ((hge i hi).2 (decide_eq_true_iff.1 (h i hi))).symm)
    have hiff : (∀ j, j < s.K → (told (boxFacts s.K s.M s.O s.S s.z s.ps) (2 ^ j) s.z).2 = true) ↔ csAll s = true := by
      rw [csAll_iff]
      exact ⟨fun h j hj => decide_eq_true_iff.2 ((hge j hj).1.1 (h j hj)), fun h j hj => (hge j hj).1.2 (decide_eq_true_iff.1 (h j hj))⟩
    refine (rcobj_box r b s.K s.M s.O s.S s.z av pv s.ps (fun i => told (boxFacts s.K s.M s.O s.S s.z s.ps) (2 ^ i) s.z) _ w (hc.cat hk) sp.hK sp.hM sp.hO sp.hS (by have := sp.hz; omega) (hc.box hk) (by omega) (hs.rel hk).inn rfl rfl).mono fun e w' ⟨⟨h1, h2, h3⟩, hb⟩ => ⟨?_, hb⟩
    by_cases ha : csAll s = true
    · rw [if_pos ⟨rfl, ha⟩]
      have hall := hiff.2 ha
      rw [hT ((csAll_iff s).1 ha)] at h1 h2
      cases ho : objOk (joinTo (csG s) s.K) with
      | true => rw [if_pos rfl]; exact h1 hall ho
      | false => rw [if_neg (by simp)]; exact h2 hall ho
    · rw [if_neg (fun h => ha h.2)]
      exact h3 (fun h => ha (hiff.1 h))

end Go.Proofs.YtnjaofkieajnlaaGreat

/- The statement's own 'heard': Hear, Object and Wants of a pair of catchers. -/
namespace Go.Proofs.YtnjaofkieajnlaaGreat
open Go.RowKit

/-- A pair of catchers. -/
structure PC where
  c : Nat
  r : Nat
  b : Nat
  av : Value
  pv : Value
  s : CS

structure CatPair (w : World) (x : PC) : Prop where
  prog : ProgCat w x.c 0 89 89 (fun _ => undef) x.s
  doc : DocCat w x.r x.b x.av x.pv x.s
  ok : CSok x.s

/-- The blocks of a pair. -/
def PC.fp (x : PC) (k : Nat) : Prop := k = x.c ∨ fpD x.r x.b x.av x.pv x.s k

theorem CatPair.parted {w : World} {x : PC} (h : CatPair w x) {k : Nat} (hk : fpD x.r x.b x.av x.pv x.s k) : k ≠ x.c := by
  rintro rfl
  obtain ⟨cs, t, hc, ht⟩ := h.doc.types hk
  obtain ⟨c', hc', _⟩ := h.prog.2
  rw [hc'] at hc
  simp at hc
  obtain ⟨_, rfl⟩ := hc
  rcases ht with ht | ht | ht | ht <;> exact absurd ht (by decide)

def catK : Kind PC where
  no := ⟨0, 0, 0, .slice none 0 0, .slice none 0 0, CS.zero⟩
  p := PC.c
  r := PC.r
  fp := PC.fp
  lies := CatPair
  lt := fun h hk => by
    rcases hk with rfl | hk
    · exact CatOff.lt h.prog
    · exact h.doc.lt hk
  blocks := fun h hb => ⟨CatOff.block h.prog (hb _ (Or.inl rfl)), h.doc.blocks (fun k hk => hb k (Or.inr hk)), h.ok⟩

theorem objE_form (s : CS) : ∃ x n, objE s = (x, n) := ⟨_, _, rfl⟩

set_option maxRecDepth 100000 in
set_option maxHeartbeats 8000000 in
theorem heard_any (wb : Nat) (csv : Value) (cl : List PC) (k a b c K M O S : Int) (s : ByteArray) (lv : Value) (w : World) (hcb0 : w.cell? ⟨wb, 7, none⟩ = some csv) (hwl : wb < w.heap.size) (hat : PairsAt catK w 49 csv cl) (ha1 : -9223372036854775808 ≤ a) (ha2 : a ≤ 9223372036854775807) (hk : k = 6 ∨ k = 7 ∨ k = 8) :
    Calls Tryz.prog 14 #[.pointer (some ⟨wb, 0, none⟩), .agg (opC k a b c K M O S s lv)] w fun e w' => e = .returned (.bool true) ∧ ∃ cl', PairsAt catK w' 49 csv cl' ∧ cl'.length = cl.length ∧ Chg (pfp catK csv cl) w w' ∧ (∀ k, pfp catK csv cl' k → pfp catK csv cl k ∨ w.heap.size ≤ k) := by
  have hbA := (Below.refl w.heap.size w).alloc (Nat.le_refl _) (.cells (opC k a b c K M O S s lv) 29)
  have hat1 := hat.on hbA
  have hop : (w.alloc (.cells (opC k a b c K M O S s lv) 29)).heap[w.heap.size]? = some (.cells (opC k a b c K M O S s lv) 29 (0, 0)) := heap_alloc_new w _
  have hcb : (w.alloc (.cells (opC k a b c K M O S s lv) 29)).cell? ⟨wb, 7, none⟩ = some csv := (hbA.cell (p := ⟨wb, 7, none⟩) hwl).trans hcb0
  have hsame : ∀ w', Below w.heap.size w w' → ∃ cl', PairsAt catK w' 49 csv cl' ∧ cl'.length = cl.length ∧ Chg (pfp catK csv cl) w w' ∧ (∀ k, pfp catK csv cl' k → pfp catK csv cl k ∨ w.heap.size ≤ k) := fun w' h => ⟨cl, hat.on h, rfl, Chg.of_below h _, fun k hk => Or.inl hk⟩
  have HS := hide hsame
  clear hsame
  by_cases hl0 : cl.length = 0
  · obtain ⟨ao, cap, rfl⟩ := hat.shape0 hl0
    have hend := HS.out _ hbA
    clear HS
    go_enter Tryz.func14, Tryz.ntmps14
    go_wp2_with fail
    go_ret
    exact ⟨rfl, hend⟩
  · have hjl := placeOf_lt cl.length a (by omega)
    have hjp := pick_place' a cl.length (by omega)
    generalize placeOf cl.length a = j at *
    obtain ⟨g, cap, rfl, hg, p0, p1⟩ := hat.cells hjl
    have hpk := fun W => lpick_any a (cl.length : Int) W ha1 ha2 (by omega)
    rw [hjp] at hpk
    clear hjp
    have q0 := (hbA.cell (p := ⟨g, j * 2, none⟩) hg).trans p0
    have q1 := (hbA.cell (p := ⟨g, j * 2 + 1, none⟩) hg).trans p1
    obtain ⟨c0, c1, c2, c4, c5, c6, c7, c8⟩ := op_cells hop
    have i1 : (0 : Int) ≤ (j : Int) := by omega
    have i2 : (j : Int) < (cl.length : Int) := by omega
    have hbn : ((cl.length : Int) == 0) = false := beq_eq_false_iff_ne.2 (by omega)
    generalize hpp : catK.p (cl.getD j catK.no) = p at *
    generalize hrr : catK.r (cl.getD j catK.no) = r at *
    go_enter Tryz.func14, Tryz.ntmps14
    go_upto_region 3 with fail
    generalize hW : w.alloc (.cells (opC k a b c K M O S s lv) 29) = W at *
    have hWs : W.heap.size = w.heap.size + 1 := by rw [← hW]; simp
    go_cut [5] (fun s5 wc => ∃ x, s5 = .pointer (some ⟨x, 0, none⟩) ∧ wc.heap[x]? = some (.cells #[.pointer (some ⟨p, 0, none⟩), .pointer (some ⟨r, 0, none⟩)] 49 (0, 0)) ∧ W.heap.size ≤ x ∧ Below W.heap.size W wc)
    case first =>
      have hbf := ((Below.refl W.heap.size W).alloc (Nat.le_refl _) (.cells #[.pointer (some ⟨p, 0, none⟩), .pointer (some ⟨r, 0, none⟩)] 49)).drew
      have hnw := heap_alloc_new W (.cells #[.pointer (some ⟨p, 0, none⟩), .pointer (some ⟨r, 0, none⟩)] 49)
      have hgW : g < W.heap.size := by omega
      have hwW : wb < W.heap.size := by omega
      have hoW : w.heap.size < W.heap.size := by omega
      clear hat hat1 hop hcb0 p0 p1 c0 c2 c4 c5 c6 c7 c8 hbA HS
      go_region_held3 (fun w' => w'.cell? ⟨wb, 7, none⟩ = some (.slice (some ⟨g, 0, none⟩) cl.length cap) ∧ w'.cell? ⟨w.heap.size, 1, none⟩ = some (.int .i64 a) ∧ w'.cell? ⟨g, j * 2, none⟩ = some (.pointer (some ⟨p, 0, none⟩)) ∧ w'.cell? ⟨g, j * 2 + 1, none⟩ = some (.pointer (some ⟨r, 0, none⟩)))
        (first | (exact ⟨hcb, c1, q0, q1⟩) | go_keep)
        (first
          | (go_at_call 25; refine (hpk _).mono ?_; rintro e w2 ⟨rfl, h2⟩; obtain rfl := h2.symm))
      all_goals
        go_wp2_with fail
        go_meet
        case rel => exact ⟨w.heap.size + 1, rfl, by rw [← hWs]; exact hnw, by omega, hbf⟩
    case rest =>
      obtain ⟨x, rfl, hx, hxl, hbc⟩ := hcut
      have hbwc : Below w.heap.size w wc := hbA.trans (hbc.mono (by omega))
      have hatc := hat.on hbwc
      have hopc := block_on hop hbc
      have hpr := hatc.each j hjl
      have hupd : ∀ w' B', Chg (catK.fp (cl.getD j catK.no)) wc w' → CatPair w' B' → B'.c = (cl.getD j catK.no).c → B'.r = (cl.getD j catK.no).r → (∀ k, B'.fp k → (cl.getD j catK.no).fp k ∨ wc.heap.size ≤ k) → ∃ cl', PairsAt catK w' 49 (.slice (some ⟨g, 0, none⟩) cl.length cap) cl' ∧ cl'.length = cl.length ∧ Chg (pfp catK (.slice (some ⟨g, 0, none⟩) cl.length cap) cl) w w' ∧ (∀ k, pfp catK (.slice (some ⟨g, 0, none⟩) cl.length cap) cl' k → pfp catK (.slice (some ⟨g, 0, none⟩) cl.length cap) cl k ∨ w.heap.size ≤ k) :=
        fun w' B' h1 h2 h3 h4 h5 => by
          obtain ⟨u1, u2, u3⟩ := hatc.update hjl (b := B') h1 h2 h3 h4 h5
          refine ⟨cl.set j B', u1, by simp, chg_below hbwc u2, fun k hk => ?_⟩
          rcases u3 k hk with h | h
          · exact Or.inl h
          · right; have := hbwc.size; omega
      have hold : ∀ w', Below wc.heap.size wc w' → ∃ cl', PairsAt catK w' 49 (.slice (some ⟨g, 0, none⟩) cl.length cap) cl' ∧ cl'.length = cl.length ∧ Chg (pfp catK (.slice (some ⟨g, 0, none⟩) cl.length cap) cl) w w' ∧ (∀ k, pfp catK (.slice (some ⟨g, 0, none⟩) cl.length cap) cl' k → pfp catK (.slice (some ⟨g, 0, none⟩) cl.length cap) cl k ∨ w.heap.size ≤ k) := fun w' h => HS.out w' (hbwc.trans (h.mono hbwc.size))
      have hpp2 : (cl.getD j catK.no).c = p := hpp
      have hrr2 : (cl.getD j catK.no).r = r := hrr
      have hpr2 : CatPair wc (cl.getD j catK.no) := hpr
      have hfpe : catK.fp (cl.getD j catK.no) = (cl.getD j catK.no).fp := rfl
      rw [hfpe] at hupd
      clear hpr hfpe hpp hrr
      subst hpp2 hrr2
      clear hat hat1 hop hcb hcb0 p0 p1 q0 q1 c0 c1 c2 c4 c5 c6 c7 c8 hpk hbc hatc HS hbA hbwc
      generalize cl.getD j catK.no = B at *
      obtain ⟨hx0, hx1⟩ := two_cells hx
      obtain ⟨c0, c1, c2, c4, c5, c6, c7, c8⟩ := op_cells hopc
      have hcl := CatOff.lt hpr2.prog
      have hHO := hide hold
      have hHU := hide hupd
      have hxp : x ≠ B.c := by
        rintro rfl
        obtain ⟨cs, hcs, _⟩ := hpr2.prog.2
        rw [hx] at hcs
        simp at hcs
      have hopp : w.heap.size ≠ B.c := by
        intro e
        obtain ⟨cs, hcs, _⟩ := hpr2.prog.2
        rw [← e, hopc] at hcs
        simp at hcs
      have hxlt : x < wc.heap.size := (Array.getElem?_eq_some_iff.1 hx).1
      have holt : w.heap.size < wc.heap.size := (Array.getElem?_eq_some_iff.1 hopc).1
      clear hold hupd c1 c2 c4 c5 c6 c7
      rcases hk with rfl | rfl | rfl
      · have hhr := hear_by B.c s _ _ wc (ohear_any B.c 0 89 89 (fun _ => undef) B.s s wc hpr2.prog hpr2.ok)
        have hdc := fun W h => rhear_any B.r B.b B.av B.pv B.s s W h hpr2.ok
        have hok2 := hpr2.ok.hear s
        generalize hearE B.s s = ee at *
        generalize hearS B.s s = s2 at *
        go_wp2_with fail
        refine hhr.mono ?_
        rintro e w1 ⟨rfl, hpc1, hcg⟩
        have hdoc1 := hpr2.doc.blocks (w' := w1) (fun k hk => hcg.block k (hpr2.doc.lt hk) (fun e => hpr2.parted hk e))
        have hx' := (hcg.block x hxlt hxp).trans hx
        have hop' := (hcg.block _ holt hopp).trans hopc
        obtain ⟨y0, y1⟩ := two_cells hx'
        clear hx0 hx1 c0 c8 hhr
        obtain ⟨c0, c1, c2, c4, c5, c6, c7, c8⟩ := op_cells hop'
        clear c1 c2 c4 c5 c6 c7
        go_wp2_with fail
        refine (hdc _ hdoc1).mono ?_
        rintro e w2 ⟨rfl, b', av', pv', hd2, hcg2, hnew2⟩
        have hne2 : ¬ fpD B.r B.b B.av B.pv B.s B.c := fun h => hpr2.parted h rfl
        have hsz1 := hcg.size
        have hend := hHU.out w2 ⟨B.c, B.r, b', av', pv', s2⟩ ((hcg.mono (fun k _ h => Or.inl h) : Chg B.fp wc w1).trans hcg2 (fun k _ h => Or.inr h)) ⟨CatOff.block hpc1 (hcg2.block _ (Nat.lt_of_lt_of_le hcl hsz1) hne2), hd2, hok2⟩ rfl rfl (fun k hk => by
          rcases hk with hk | hk
          · exact Or.inl (Or.inl hk)
          · rcases hnew2 k hk with h | h
            · exact Or.inl (Or.inr h)
            · right; omega)
        clear hHO hHU hpr2 hopc hx hdc hdoc1 hd2 hop' hx' y0 y1 c0 c8 hcg hcg2 hpc1 hnew2
        go_wp2_with fail
        go_ret
        exact ⟨by first | rfl | simp, hend⟩
      · have hob := object_by B.c _ _ _ wc (oobj_any B.c 0 89 89 (fun _ => undef) B.s wc hpr2.prog hpr2.ok)
        have hdc := fun W h => robj_any B.r B.b B.av B.pv B.s W h hpr2.ok
        obtain ⟨xo, no, hoe⟩ := objE_form B.s
        rw [hoe] at hob hdc
        dsimp only at hob hdc
        clear hoe
        have hse : (xo.toList == xo.toList) = true := by simp
        go_wp2_with fail
        refine hob.mono ?_
        rintro e w1 ⟨rfl, hb1⟩
        have hdoc1 := hpr2.doc.on hb1
        have hx' := block_on hx hb1
        obtain ⟨y0, y1⟩ := two_cells hx'
        clear hx0 hx1 c0 c8 hob
        go_wp2_with fail
        refine (hdc _ hdoc1).mono ?_
        rintro e w2 ⟨rfl, hb2⟩
        have hend := hHO.out w2 (hb1.trans (hb2.mono hb1.size))
        clear hHO hHU hpr2 hopc hx hdc hdoc1 hx' y0 y1 hb1 hb2
        go_wp2_with fail
        go_ret
        exact ⟨by first | rfl | simp, hend⟩
      · have hwa := wants_by B.c _ _ wc (owants_any B.c 0 89 89 (fun _ => undef) B.s wc hpr2.prog hpr2.ok)
        have hdc := fun W h => rwants_any B.r B.b B.av B.pv B.s W h hpr2.ok
        generalize wantE B.s = ee at *
        go_wp2_with fail
        refine hwa.mono ?_
        rintro e w1 ⟨rfl, h1⟩
        obtain rfl := h1.symm
        clear hwa
        go_wp2_with fail
        refine (hdc _ hpr2.doc).mono ?_
        rintro e w2 ⟨rfl, hb2⟩
        have hend := hHO.out w2 hb2
        clear hHO hHU hpr2 hopc hx hdc hx0 hx1 c0 c8 hb2
        go_wp2_with fail
        go_ret
        exact ⟨by first | rfl | simp, hend⟩

end Go.Proofs.YtnjaofkieajnlaaGreat

/- The statement's own 'step' over the calls of catchers. -/
namespace Go.Proofs.YtnjaofkieajnlaaGreat
open Go.RowKit

theorem Tryz.infoCats : (Tryz.prog.info? 49).map (fun i => (i.zero, i.size, i.bytes)) = some (some (.agg #[.pointer none, .pointer none]), 2, 16) := by kernel_rfl

/-- What a step on catchers leaves. -/
def CatStep (wb : Nat) (f : Nat → Value) (csv : Value) (cl : List PC) (w w' : World) : Prop :=
  ∃ csv' cl', w'.rowIs wb 39 14 (fun i => if i = 7 then csv' else f i) ∧ PairsAt catK w' 49 csv' cl' ∧ cl'.length ≤ cl.length + 1 ∧ Chg (fun k => k = wb ∨ pfp catK csv cl k) w w' ∧ (∀ k, pfp catK csv' cl' k → pfp catK csv cl k ∨ w.heap.size ≤ k)

set_option maxRecDepth 100000 in
set_option maxHeartbeats 8000000 in
theorem step_listen (wb : Nat) (f : Nat → Value) (csv : Value) (cl : List PC) (a b c K M O S : Int) (s : ByteArray) (lv : Value) (w : World) (hrow : w.rowIs wb 39 14 f) (hf7 : f 7 = csv) (hat : PairsAt catK w 49 csv cl) (hwn : ¬ pfp catK csv cl wb) (hl : cl.length ≤ 4000000000000) :
    Calls Tryz.prog 9 #[.pointer (some ⟨wb, 0, none⟩), .agg (opC 5 a b c K M O S s lv)] w fun e w' => e = .returned (.bool true) ∧ CatStep wb f csv cl w w' := by
  obtain ⟨i0, hii, hz0, hz1, hz2⟩ := info_parts Tryz.infoCats
  have hbA := (Below.refl w.heap.size w).alloc (Nat.le_refl _) (.cells (opC 5 a b c K M O S s lv) 29)
  have hop : (w.alloc (.cells (opC 5 a b c K M O S s lv) 29)).heap[w.heap.size]? = some (.cells (opC 5 a b c K M O S s lv) 29 (0, 0)) := heap_alloc_new w _
  obtain ⟨c0, _⟩ := op_cells hop
  have hwl := hrow.lt
  go_enter Tryz.func9, Tryz.ntmps9
  go_wp2_with fail
  refine (listen_any _).mono ?_
  rintro e w1 ⟨p, rfl, hcn, hp, hb1⟩
  have hb01 : Below w.heap.size w w1 := hbA.trans (hb1.mono hbA.size)
  have hat1 := hat.on hb01
  have hrow1 : w1.rowIs wb 39 14 f := hrow.of_block (hb01.block wb hwl)
  have hcb : w1.cell? ⟨wb, 7, none⟩ = some csv := by rw [← hf7]; exact hrow1.cell (i := 7) (by omega)
  have hfb := hrow1.frozen 7
  have hwl1 := hrow1.lt
  have hpw : w.heap.size ≤ p := by simp at hp; omega
  have hpl := CatOff.lt hcn
  have hbR := (Below.refl w1.heap.size w1).alloc (Nat.le_refl _) (catB none)
  have hatR := hat1.on hbR
  have hpair : CatPair (w1.alloc (catB none)) ⟨p, w1.heap.size, 0, .slice none 0 0, .slice none 0 0, CS.zero⟩ :=
    ⟨by show ProgCat _ p 0 89 _ _ CS.zero; rw [ProgCat.zero]; exact CatOff.on hcn (Nat.le_refl _) hbR, ⟨fun _ => heap_alloc_new w1 _, fun h => (by cases h), fun h => (by cases h), fun h => (by cases h)⟩, CSok.new⟩
  have hfpb : ∀ x, (PC.fp ⟨p, w1.heap.size, 0, .slice none 0 0, .slice none 0 0, CS.zero⟩ x) → x = p ∨ x = w1.heap.size := fun x hx => by
    rcases hx with hx | hx | ⟨hx, _⟩
    · exact Or.inl hx
    · exact Or.inr hx
    · cases hx
  have hcsw : csv.ownBlock ≠ some wb := fun e => hwn (Or.inl e)
  have hfin : ∀ g cap w3, w3.ownsRow 0 49 2 (.slice (some ⟨g, 0, none⟩) (cl.length + 1) cap) (cl.length + 1) (catK.vals cl ++ [.pointer (some ⟨p, 0, none⟩), .pointer (some ⟨w1.heap.size, 0, none⟩)]) → (w1.alloc (catB none)).grownBy w3 csv.ownBlock → (csv.ownBlock = some g ∨ g = w1.heap.size + 1 + 1) →
      CatStep wb f csv cl w (w3.setCell ⟨wb, 7, none⟩ (.slice (some ⟨g, 0, none⟩) (cl.length + 1) cap)) := fun g cap w3 ho hg ha => by
    have hsz1 := hb01.size
    have hszR : (w1.alloc (catB none)).heap.size = w1.heap.size + 1 := by simp
    obtain ⟨u1, u2⟩ := hatR.snoc (b := ⟨p, w1.heap.size, 0, .slice none 0 0, .slice none 0 0, CS.zero⟩) (g := g) (cap := cap) hpair (fun x hx hx2 => by
      rcases hfpb x hx with rfl | rfl
      · have := hat.lt hx2
        omega
      · have := hat1.lt hx2
        omega) hg (by rw [Kind.vals_append]; exact ho) rfl (by rcases ha with h | h; exact Or.inl h; right; rw [hszR]; omega)
    have hnew : ∀ k, pfp catK (.slice (some ⟨g, 0, none⟩) (cl.length + 1) cap) (cl ++ [⟨p, w1.heap.size, 0, .slice none 0 0, .slice none 0 0, CS.zero⟩]) k → pfp catK csv cl k ∨ w.heap.size ≤ k := fun k hk => by
      rcases u2 k hk with h | h | h
      · exact Or.inl h
      · rcases hfpb k h with rfl | rfl
        · exact Or.inr hpw
        · right; omega
      · right; rw [hszR] at h; omega
    have hnw : ¬ pfp catK (.slice (some ⟨g, 0, none⟩) (cl.length + 1) cap) (cl ++ [⟨p, w1.heap.size, 0, .slice none 0 0, .slice none 0 0, CS.zero⟩]) wb := fun h => by
      rcases hnew wb h with h | h
      · exact hwn h
      · omega
    have hrow3 : w3.rowIs wb 39 14 f := (hrow1.of_block (hbR.block wb hwl1)).of_block (hg.block wb (by rw [hszR]; omega) (fun e => hcsw e.symm))
    refine ⟨_, _, hrow3.set 7 _, u1.blocks (fun k hk => heap_setCell_other _ _ _ _ (by rintro rfl; exact hnw hk)), by simp, ?_, hnew⟩
    have hc1 : Chg (fun k => k = wb ∨ pfp catK csv cl k) w (w1.alloc (catB none)) := (Chg.of_below hb01 _).alloc _
    exact (hc1.grown hg (fun k e => Or.inr (Or.inr (Or.inl e.symm.symm)))).setCell (a := ⟨wb, 7, none⟩) (Or.inr (Or.inl rfl)) _
  have HF := hide hfin
  have hown0 := hat1.own
  clear hfin hfpb hpair hatR hat hat1 hcn hop hrow hrow1 hbR hb1 hbA c0
  go_wp2_with (at_builtin; refine wpList_append_lies _ rfl (.tmp 30) (.tmp 35) 34 rfl 0 49 i0 (.agg #[.pointer none, .pointer none]) 2 16 Tryz.underlying34 hii hz0 hz1 hz2 rfl (by decide) _ _ _ rfl ((hown0.alloc _).alloc _) ⟨w1.heap.size + 1, 0, none⟩ 1 1 [.pointer (some ⟨p, 0, none⟩), .pointer (some ⟨w1.heap.size, 0, none⟩)] rfl rfl (World.news_of_block (cs := #[_, _]) (heap_alloc2 w1 _ _)) (by intro u hu; simp at hu; rcases hu with rfl | rfl <;> rfl) (by decide) (by unfold maxLen; omega) (by omega) (Nat.zero_le _) (w1.heap.size + 1 + 1) (by simp) ?_)
  intro g cap w3 hown3 hgr3 hat4 hlt3
  have hgr := grownBy_of_alloc (grownBy_of_alloc hgr3)
  have q6 := (hgr.cell_far ⟨wb, 7, none⟩ hwl1 (fun e => hcsw e.symm)).trans hcb
  have f6 := (hgr.frozen_far ⟨wb, 7, none⟩ hwl1 (fun e => hcsw e.symm)).trans hfb
  have hend := HF.out g cap w3 hown3 (grownBy_of_alloc hgr3) hat4
  clear HF hown3 hgr3 hgr hat4 hown0 hcb hfb
  go_wp2_with fail
  go_ret
  exact ⟨rfl, hend⟩

set_option maxRecDepth 100000 in
set_option maxHeartbeats 8000000 in
theorem step_cat (wb : Nat) (f : Nat → Value) (csv : Value) (cl : List PC) (k a b c K M O S : Int) (s : ByteArray) (lv : Value) (w : World) (hrow : w.rowIs wb 39 14 f) (hf7 : f 7 = csv) (hat : PairsAt catK w 49 csv cl) (hwn : ¬ pfp catK csv cl wb) (hl : cl.length ≤ 4000000000000) (ha1 : -9223372036854775808 ≤ a) (ha2 : a ≤ 9223372036854775807) (hk : 5 ≤ k ∧ k ≤ 8) :
    Calls Tryz.prog 9 #[.pointer (some ⟨wb, 0, none⟩), .agg (opC k a b c K M O S s lv)] w fun e w' => e = .returned (.bool true) ∧ CatStep wb f csv cl w w' := by
  by_cases h5 : k = 5
  · subst h5
    exact step_listen wb f csv cl a b c K M O S s lv w hrow hf7 hat hwn hl
  · have hk2 : k = 6 ∨ k = 7 ∨ k = 8 := by omega
    have hbA := (Below.refl w.heap.size w).alloc (Nat.le_refl _) (.cells (opC k a b c K M O S s lv) 29)
    have hop : (w.alloc (.cells (opC k a b c K M O S s lv) 29)).heap[w.heap.size]? = some (.cells (opC k a b c K M O S s lv) 29 (0, 0)) := heap_alloc_new w _
    have hwl := hrow.lt
    have hrowA : (w.alloc (.cells (opC k a b c K M O S s lv) 29)).rowIs wb 39 14 f := hrow.of_block (hbA.block wb hwl)
    have hhe := heard_any wb csv cl k a b c K M O S s lv _ (by rw [← hf7]; exact hrowA.cell (i := 7) (by omega)) hrowA.lt (hat.on hbA) ha1 ha2 hk2
    have hfin : ∀ w', (∃ cl', PairsAt catK w' 49 csv cl' ∧ cl'.length = cl.length ∧ Chg (pfp catK csv cl) (w.alloc (.cells (opC k a b c K M O S s lv) 29)) w' ∧ (∀ k_1, pfp catK csv cl' k_1 → pfp catK csv cl k_1 ∨ (w.alloc (.cells (opC k a b c K M O S s lv) 29)).heap.size ≤ k_1)) → CatStep wb f csv cl w w' := by
      rintro w' ⟨cl', h1, h2, h3, h4⟩
      refine ⟨csv, cl', (hrowA.of_block (h3.block wb hrowA.lt hwn)).congr (fun i _ => ?_), h1, by omega, (chg_below hbA h3).mono (fun k _ h => Or.inr h), fun k hk => ?_⟩
      · by_cases e : i = 7
        · rw [if_pos e, e, hf7]
        · rw [if_neg e]
      · rcases h4 k hk with h | h
        · exact Or.inl h
        · right; have := hbA.size; omega
    have HF := hide hfin
    clear hfin hrowA hat hrow
    go_enter Tryz.func9, Tryz.ntmps9
    rcases hk2 with rfl | rfl | rfl
    all_goals
      go_wp2_with fail
      refine hhe.mono ?_
      rintro e w1 ⟨rfl, h2⟩
      have hend := HF.out w1 h2
      clear hop hhe h2 HF hbA
      go_wp2_with fail
      go_ret
      exact ⟨rfl, hend⟩

end Go.Proofs.YtnjaofkieajnlaaGreat
