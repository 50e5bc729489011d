/- Texts of the proof, part 33. -/
import Derived.Test.YtnjaofkieajnlaaGreatAlluptoG10
import Derived.Test.YtnjaofkieajnlaaGreatAlluptoG31

/- The program's inbox: Take whole, and as it is called; Open. -/
namespace Go.Proofs.YtnjaofkieajnlaaGreat
open Go.RowKit

/-- The program's inbox goes by what was taken. -/
def ProgInb (w : World) (p : Nat) (tt : TypeId) (s : IS) : Prop := InbAt w p tt s.parts.length s.K s.M s.O s.S s.z s.parts.length (fun j => (s.parts.getD j CS.zero).kn)

set_option maxRecDepth 100000 in
set_option maxHeartbeats 4000000 in
theorem ltake_no (x : Value) (t : ByteArray) (w : World) (ht : ¬ (headOk t ∧ PacketOk (tQ t))) :
    Calls Tryz.prog 63 #[x, .string t] w fun e w' => e = .returned (.int .i64 6) ∧ Below w.heap.size w w' := by
  have hrd := fun W => lread_not t W ht
  clear ht
  go_enter Tryz.func63, Tryz.ntmps63
  go_wp2_with fail
  refine (hrd _).mono ?_
  rintro e w1 ⟨rfl, hb1⟩
  have hbf := hb1.alloc hb1.size (.cells sh0 151)
  go_wp2_with fail
  go_ret
  exact ⟨rfl, hbf⟩

set_option maxRecDepth 100000 in
set_option maxHeartbeats 4000000 in
theorem ltake_by (c : Nat) (f : Nat) (hf : f = if c = 0 then 98 else 99) (p : Nat) (t : ByteArray) (P : Int → World → World → Prop) (n : Int) (w : World) (hh : headOk t) (ht : PacketOk (tQ t)) (hcell : ∀ w1, Below w.heap.size w w1 → w1.cell? ⟨p, 0, none⟩ = some (.int .i64 (c : Int)))
    (hdo : ∀ w1, Below w.heap.size w w1 → Calls Tryz.prog f #[.pointer (some ⟨p, 0, none⟩), .agg (shC (tP t : Int) (tN t : Int) (rK (tQ t)) (rM (tQ t)) (rO (tQ t)) (rS (tQ t)) (rZ (tQ t)) (rI (tQ t)) (rQ (tQ t)))] w1 fun e w' => e = .returned (.int .i64 n) ∧ P n w1 w') :
    Calls Tryz.prog 63 #[.pointer (some ⟨p, 0, none⟩), .string t] w fun e w' => e = .returned (.int .i64 n) ∧ ∃ w1, Below w.heap.size w w1 ∧ P n w1 w' := by
  have hrd := fun W => lread_yes t W hh ht
  clear ht hh
  generalize (rK (tQ t) : Int) = K at *
  generalize (rM (tQ t) : Int) = M at *
  generalize (rO (tQ t) : Int) = O at *
  generalize (rS (tQ t) : Int) = S at *
  generalize (rZ (tQ t) : Int) = z at *
  generalize (rI (tQ t) : Int) = i at *
  generalize rQ (tQ t) = q at *
  generalize (tP t : Int) = a at *
  generalize (tN t : Int) = c' at *
  by_cases h0 : c = 0
  · rw [if_pos h0] at hf
    subst hf
    have hb : ((c : Int) == 0) = true := by rw [h0]; rfl
    clear h0
    go_enter Tryz.func63, Tryz.ntmps63
    go_wp2_with fail
    refine (hrd _).mono ?_
    rintro e w1 ⟨rfl, hb1⟩
    have hbf := hb1.alloc hb1.size (.cells (shC a c' K M O S z i q) 151)
    have c0 := hcell _ hbf
    clear hcell hrd
    go_wp2_with fail
    refine (hdo _ hbf).mono ?_
    rintro e w2 ⟨rfl, hP⟩
    clear c0 hdo
    have HE : ∃ w1, Below w.heap.size w w1 ∧ P n w1 w2 := ⟨_, hbf, hP⟩
    clear hbf hP
    go_wp2_with fail
    go_ret
    exact ⟨rfl, HE⟩
  · rw [if_neg h0] at hf
    subst hf
    have hb : ((c : Int) == 0) = false := by simpa using h0
    clear h0
    go_enter Tryz.func63, Tryz.ntmps63
    go_wp2_with fail
    refine (hrd _).mono ?_
    rintro e w1 ⟨rfl, hb1⟩
    have hbf := hb1.alloc hb1.size (.cells (shC a c' K M O S z i q) 151)
    have c0 := hcell _ hbf
    clear hcell hrd
    go_wp2_with fail
    refine (hdo _ hbf).mono ?_
    rintro e w2 ⟨rfl, hP⟩
    clear c0 hdo
    have HE : ∃ w1, Below w.heap.size w w1 ∧ P n w1 w2 := ⟨_, hbf, hP⟩
    clear hbf hP
    go_wp2_with fail
    go_ret
    exact ⟨rfl, HE⟩

theorem ProgInb.on {w w' : World} {p : Nat} {tt : TypeId} {s : IS} (h : ProgInb w p tt s) (hb : Below w.heap.size w w') : ProgInb w' p tt s := InbAt.on h (Nat.le_refl _) hb

theorem ProgInb.block {w w' : World} {p : Nat} {tt : TypeId} {s : IS} (h : ProgInb w p tt s) (hb : w'.heap[p]? = w.heap[p]?) : ProgInb w' p tt s := InbAt.block h hb

/-- What a part holds behind a sheet. -/
theorem hear_kn {t : ByteArray} {c : CS} (h0 : hearE c (tQ t) = 0) : (hearS c (tQ t)).kn = putK c.kn (ofs (rK (tQ t)) (rM (tQ t)) (rO (tQ t)) (rS (tQ t)) (rI (tQ t))) (rQ (tQ t)) := by
  unfold hearS
  rw [if_pos h0]

theorem getD_set {α : Type} (l : List α) (a : Nat) (v d : α) (j : Nat) (ha : a < l.length) : (l.set a v).getD j d = if j = a then v else l.getD j d := by
  rw [List.getD_eq_getElem?_getD, List.getD_eq_getElem?_getD]
  by_cases e : j = a
  · subst e; rw [if_pos rfl, List.getElem?_set_self ha]; rfl
  · rw [if_neg e, List.getElem?_set_ne (fun x => e x.symm)]

set_option maxHeartbeats 4000000 in
theorem otake_any (p : Nat) (tt : TypeId) (s : IS) (t : ByteArray) (w : World) (hc : ProgInb w p tt s) (hs : ISok s) :
    Calls Tryz.prog 63 #[.pointer (some ⟨p, 0, none⟩), .string t] w fun e w' => e = .returned (.int .i64 (takeE s t)) ∧ ProgInb w' p tt (takeS s t) ∧ Chg (fun k => k = p) w w' := by
  have hkeep : ∀ n, takeE s t = n → n ≠ 0 → ∀ w', Below w.heap.size w w' → ProgInb w' p tt (takeS s t) ∧ Chg (fun k => k = p) w w' := fun n hn h0 w' hb => by
    have hS : takeS s t = s := by unfold takeS; rw [hn, if_neg h0]
    rw [hS]
    exact ⟨hc.on hb, Chg.of_below hb _⟩
  by_cases hhp : headOk t ∧ PacketOk (tQ t)
  · obtain ⟨hh, hp⟩ := hhp
    obtain ⟨a1, a2, a3, a4, a5, a6, a7⟩ := hp.has
    obtain ⟨_, _, n1, n2, n3⟩ := id hh
    by_cases hn : s.parts = []
    · have hz := hs.none hn
      subst hz
      have hpo : partsOf IS.zero t = List.replicate (tN t) CS.zero := by unfold partsOf; rw [if_pos hn]
      have hg0 : (List.replicate (tN t) CS.zero).getD (tP t) CS.zero = CS.zero := by rw [List.getD_eq_getElem?_getD, List.getElem?_replicate]; split <;> rfl
      have he := takeE_main hh hp (Or.inl rfl : IS.zero.parts = [] ∨ _)
      rw [hpo, hg0] at he
      have he2 : hearE CS.zero (tQ t) = putE (left kn0 (ofs (rK (tQ t)) (rM (tQ t)) (rO (tQ t)) (rS (tQ t)) (rI (tQ t))) (rQ (tQ t))) (rZ (tQ t)) := hearE_put hp (fun e => by cases e)
      have hc0 : InbAt w p tt 0 0 0 0 0 0 0 (fun _ => kn0) := InbAt.congr hc (fun j hj => absurd hj (Nat.not_lt_zero _))
      refine (ltake_by 0 _ rfl p t (fun n w1 w' => (n = 0 → InbAt w' p tt (tN t) (rK (tQ t)) (rM (tQ t)) (rO (tQ t)) (rS (tQ t)) (rZ (tQ t)) (tN t) (fun j => if j = tP t then putK kn0 (ofs (rK (tQ t)) (rM (tQ t)) (rO (tQ t)) (rS (tQ t)) (rI (tQ t))) (rQ (tQ t)) else kn0)) ∧ (n ≠ 0 → Below w1.heap.size w1 w') ∧ Chg (fun k => k = p) w1 w') (takeE IS.zero t) w hh hp (fun w1 hb => (hc0.on (Nat.le_refl _) hb).head.1) (fun w1 hb => ?_)).mono ?_
      · rw [he, he2]
        exact lfirst_any p tt (tP t) (tN t) (rK (tQ t)) (rM (tQ t)) (rO (tQ t)) (rS (tQ t)) (rZ (tQ t)) (rI (tQ t)) (rQ (tQ t)) w1 a1 a2 a3 a4 a5 n3 n2 a6 a7 (hc0.on (Nat.le_refl _) hb)
      · rintro e w' ⟨hre, w1, hb, h1, h2, h3⟩
        refine ⟨hre, ?_⟩
        by_cases h0 : takeE IS.zero t = 0
        · refine ⟨?_, chg_below hb h3⟩
          have hS : takeS IS.zero t = ⟨rK (tQ t), rM (tQ t), rO (tQ t), rS (tQ t), rZ (tQ t), (List.replicate (tN t) CS.zero).set (tP t) (hearS CS.zero (tQ t))⟩ := by
            unfold takeS
            rw [if_pos h0, hpo, hg0]
          rw [hS]
          unfold ProgInb
          show InbAt w' p tt ((List.replicate (tN t) CS.zero).set (tP t) (hearS CS.zero (tQ t))).length _ _ _ _ _ ((List.replicate (tN t) CS.zero).set (tP t) (hearS CS.zero (tQ t))).length (fun j => (((List.replicate (tN t) CS.zero).set (tP t) (hearS CS.zero (tQ t))).getD j CS.zero).kn)
          rw [List.length_set, List.length_replicate]
          refine (h1 h0).congr (fun j hj => ?_)
          rw [getD_set _ _ _ _ _ (by rw [List.length_replicate]; exact n3)]
          by_cases e : j = tP t
          · rw [if_pos e, if_pos e, hear_kn (by rw [← he]; exact h0)]; rfl
          · rw [if_neg e, if_neg e, List.getD_eq_getElem?_getD, List.getElem?_replicate]
            split <;> rfl
        · exact hkeep _ rfl h0 w' (hb.trans ((h2 h0).mono hb.size))
    · have hlen : s.parts.length ≠ 0 := fun e => hn (List.eq_nil_of_length_eq_zero e)
      by_cases hsm : rK (tQ t) = s.K ∧ rM (tQ t) = s.M ∧ rO (tQ t) = s.O ∧ rS (tQ t) = s.S ∧ rZ (tQ t) = s.z ∧ tN t = s.parts.length
      · have he := takeE_main hh hp (Or.inr hsm)
        have hpo : partsOf s t = s.parts := by unfold partsOf; rw [if_neg hn]
        rw [hpo] at he
        obtain ⟨e1, e2, e3, e4, e5, e6⟩ := hsm
        have hl20 := hs.len
        have hpl : tP t < s.parts.length := by omega
        obtain ⟨hcs, hpf⟩ := hs.part hpl
        have hsame : (s.parts.getD (tP t) CS.zero).tk = true → (rK (tQ t) = (s.parts.getD (tP t) CS.zero).K ∧ rM (tQ t) = (s.parts.getD (tP t) CS.zero).M ∧ rO (tQ t) = (s.parts.getD (tP t) CS.zero).O ∧ rS (tQ t) = (s.parts.getD (tP t) CS.zero).S ∧ rZ (tQ t) = (s.parts.getD (tP t) CS.zero).z) := fun hk => by
          obtain ⟨f1, f2, f3, f4, f5⟩ := hpf hk
          exact ⟨by rw [f1, e1], by rw [f2, e2], by rw [f3, e3], by rw [f4, e4], by rw [f5, e5]⟩
        have he2 : hearE (s.parts.getD (tP t) CS.zero) (tQ t) = putE (left (s.parts.getD (tP t) CS.zero).kn (ofs (rK (tQ t)) (rM (tQ t)) (rO (tQ t)) (rS (tQ t)) (rI (tQ t))) (rQ (tQ t))) (rZ (tQ t)) := hearE_put hp hsame
        have hok := (hcs.base hsame).1.ok
        have hc2 : InbAt w p tt (tN t) (rK (tQ t)) (rM (tQ t)) (rO (tQ t)) (rS (tQ t)) (rZ (tQ t)) (tN t) (fun j => (s.parts.getD j CS.zero).kn) := by
          rw [e1, e2, e3, e4, e5, e6]; exact hc
        refine (ltake_by (tN t) 99 (by rw [if_neg (by omega)]) p t (fun n w1 w' => InbAt w' p tt (tN t) (rK (tQ t)) (rM (tQ t)) (rO (tQ t)) (rS (tQ t)) (rZ (tQ t)) (tN t) (fun j => if j = tP t then putK (s.parts.getD (tP t) CS.zero).kn (ofs (rK (tQ t)) (rM (tQ t)) (rO (tQ t)) (rS (tQ t)) (rI (tQ t))) (rQ (tQ t)) else (s.parts.getD j CS.zero).kn) ∧ Chg (fun k => k = p) w1 w') (takeE s t) w hh hp (fun w1 hb => (hc2.on (Nat.le_refl _) hb).head.1) (fun w1 hb => ?_)).mono ?_
        · rw [he, he2]
          exact lnext_put p tt (tN t) (rK (tQ t)) (rM (tQ t)) (rO (tQ t)) (rS (tQ t)) (rZ (tQ t)) (tN t) (fun j => (s.parts.getD j CS.zero).kn) (tP t) (rI (tQ t)) (rQ (tQ t)) w1 n3 (by omega) a1.2 a2.2 hok a5.2 a6 a7 (hc2.on (Nat.le_refl _) hb)
        · rintro e w' ⟨hre, w1, hb, h1, h3⟩
          refine ⟨hre, ?_, chg_below hb h3⟩
          by_cases h0 : takeE s t = 0
          · have hS : takeS s t = ⟨rK (tQ t), rM (tQ t), rO (tQ t), rS (tQ t), rZ (tQ t), s.parts.set (tP t) (hearS (s.parts.getD (tP t) CS.zero) (tQ t))⟩ := by
              unfold takeS
              rw [if_pos h0, hpo]
            rw [hS]
            unfold ProgInb
            show InbAt w' p tt (s.parts.set (tP t) (hearS (s.parts.getD (tP t) CS.zero) (tQ t))).length _ _ _ _ _ (s.parts.set (tP t) (hearS (s.parts.getD (tP t) CS.zero) (tQ t))).length (fun j => ((s.parts.set (tP t) (hearS (s.parts.getD (tP t) CS.zero) (tQ t))).getD j CS.zero).kn)
            rw [List.length_set, ← e6]
            refine h1.congr (fun j hj => ?_)
            rw [getD_set _ _ _ _ _ hpl]
            by_cases e : j = tP t
            · rw [if_pos e, if_pos e, hear_kn (by rw [← he]; exact h0)]
            · rw [if_neg e, if_neg e]
          · have hS : takeS s t = s := by unfold takeS; rw [if_neg h0]
            rw [hS]
            rcases putE_cases (hearL (s.parts.getD (tP t) CS.zero) (tQ t)) (rZ (tQ t)) with ⟨hx, _⟩ | ⟨_, hl, _⟩
            · exact absurd (by rw [he, he2]; exact hx) h0
            · have h4 : InbAt w' p tt (tN t) (rK (tQ t)) (rM (tQ t)) (rO (tQ t)) (rS (tQ t)) (rZ (tQ t)) (tN t) (fun j => (s.parts.getD j CS.zero).kn) := h1.congr (fun j _ => by
                by_cases e : j = tP t
                · rw [if_pos e, putK_same hl, e]
                · rw [if_neg e])
              rw [e1, e2, e3, e4, e5, e6] at h4
              exact h4
      · have he : takeE s t = 7 := by
          unfold takeE
          rw [if_neg (fun y => by
            rcases y with y | y
            · rw [(headSb_iff t).2 hh] at y; cases y
            · rw [(packetB_iff _).2 hp] at y; cases y), if_pos ⟨hn, by
            cases hy : sameI s t with
            | false => rfl
            | true => exact absurd ((sameI_iff s t).1 hy) hsm⟩]
        refine (ltake_by s.parts.length 99 (by rw [if_neg hlen]) p t (fun _ w1 w' => Below w1.heap.size w1 w') 7 w hh hp (fun w1 hb => (InbAt.on hc (Nat.le_refl _) hb).head.1) (fun w1 hb => ?_)).mono ?_
        · exact lnext_other p tt _ _ _ _ _ _ _ _ (tP t) (tN t) (rK (tQ t)) (rM (tQ t)) (rO (tQ t)) (rS (tQ t)) (rZ (tQ t)) (rI (tQ t)) (rQ (tQ t)) w1 (InbAt.on hc (Nat.le_refl _) hb) hsm
        · rintro e w' ⟨hre, w1, hb, hb2⟩
          exact ⟨by rw [he]; exact hre, hkeep 7 he (by decide) w' (hb.trans (hb2.mono hb.size))⟩
  · have he : takeE s t = 6 := by
      unfold takeE
      rw [if_pos]
      cases hy : headSb t with
      | false => exact Or.inl rfl
      | true =>
        right
        cases hz : packetB (tQ t) with
        | false => rfl
        | true => exact absurd ⟨(headSb_iff t).1 hy, (packetB_iff _).1 hz⟩ hhp
    exact (ltake_no _ t w hhp).mono fun e w' ⟨h1, h2⟩ => ⟨by rw [he]; exact h1, hkeep 6 he (by decide) w' h2⟩

/-- A call of the program's inbox is that of what lies in it. -/
theorem take_by (p : Nat) (t : ByteArray) (n : Int) (P : World → Prop) (w : World) (h : Calls Tryz.prog 63 #[.pointer (some ⟨p, 0, none⟩), .string t] w fun e w' => e = .returned (.int .i64 n) ∧ P w') :
    Calls Tryz.prog 38 #[.pointer (some ⟨p, 0, none⟩), .string t] w fun e w' => e = .returned (.int .i64 n) ∧ P w' := by
  go_enter Tryz.func38, Tryz.ntmps38
  go_wp2_with fail
  refine h.mono ?_
  rintro e w1 ⟨rfl, hP⟩
  go_wp2_with fail
  go_ret
  exact ⟨rfl, hP⟩

theorem lacks_by (p : Nat) (n : Int) (P : World → Prop) (w : World) (h : Calls Tryz.prog 64 #[.pointer (some ⟨p, 0, none⟩)] w fun e w' => e = .returned (.int .i64 n) ∧ P w') :
    Calls Tryz.prog 40 #[.pointer (some ⟨p, 0, none⟩)] w fun e w' => e = .returned (.int .i64 n) ∧ P w' := by
  go_enter Tryz.func40, Tryz.ntmps40
  go_wp2_with fail
  refine h.mono ?_
  rintro e w1 ⟨rfl, hP⟩
  go_wp2_with fail
  go_ret
  exact ⟨rfl, hP⟩

theorem whole_by (p : Nat) (s : ByteArray) (n : Int) (P : World → Prop) (w : World) (h : Calls Tryz.prog 65 #[.pointer (some ⟨p, 0, none⟩)] w fun e w' => e = .returned (.tuple #[.string s, .int .i64 n]) ∧ P w') :
    Calls Tryz.prog 42 #[.pointer (some ⟨p, 0, none⟩)] w fun e w' => e = .returned (.tuple #[.string s, .int .i64 n]) ∧ P w' := by
  go_enter Tryz.func42, Tryz.ntmps42
  go_wp2_with fail
  refine h.mono ?_
  rintro e w1 ⟨rfl, hP⟩
  go_wp2_with fail
  go_ret2
  exact ⟨rfl, hP⟩

noncomputable def builtRI (parts : Array (Nat × Value)) : Sem Value := Instr.build 96 parts

theorem build_maskRI (parts : Array (Nat × Value)) : Instr.build 96 parts = builtRI parts := rfl

attribute [local go_sem ↓] build_maskRI

set_option maxRecDepth 100000 in
set_option maxHeartbeats 4000000 in
theorem open_any (w : World) :
    Calls Tryz.prog 15 #[] w fun e w' => ∃ p, e = .returned (.pointer (some ⟨p, 0, none⟩)) ∧ ProgInb w' p 96 IS.zero ∧ w.heap.size ≤ p ∧ Below w.heap.size w w' := by
  have hb : ∀ w, (builtRI #[]).run Tryz.prog w = .ok (.agg (inbL 0 0 0 0 0 0 0 (fun _ => kn0)).toArray) w := fun w => run_build (P := Tryz.prog) w 96 #[] _ built_noinb
  have hat : ProgInb (w.alloc (.cells (inbL 0 0 0 0 0 0 0 (fun _ => kn0)).toArray 96)) w.heap.size 96 IS.zero := InbAt.congr (inb_new w 96 0 0 0 0 0 0 0 (fun _ => kn0)) (fun j hj => absurd hj (Nat.not_lt_zero _))
  generalize inbL 0 0 0 0 0 0 0 (fun _ => kn0) = cs at *
  go_enter Tryz.func15, Tryz.ntmps15
  go_wp2_with fail
  go_ret
  exact ⟨_, rfl, hat, Nat.le_refl _, (Below.refl _ _).alloc (Nat.le_refl _) _⟩

end Go.Proofs.YtnjaofkieajnlaaGreat

/- The program's inbox: Lacks; the data of all parts; whether two lists are the same. -/
namespace Go.Proofs.YtnjaofkieajnlaaGreat
open Go.RowKit

/-- How many sheets the first parts lack. -/
def lacksTo (K : Nat) (ks : Nat → Kn) : Nat → Nat
  | 0 => 0
  | i + 1 => lacksTo K ks i + openK (ks i) K

theorem lacksTo_le (K : Nat) (ks : Nat → Kn) (i : Nat) : lacksTo K ks i ≤ i * K := by
  induction i with
  | zero => exact Nat.zero_le _
  | succ i ih =>
    show lacksTo K ks i + openK (ks i) K ≤ _
    have := openK_le (ks i) K
    rw [Nat.succ_mul]
    omega

set_option maxRecDepth 100000 in
set_option maxHeartbeats 4000000 in
theorem llacks_none (p : Nat) (tt : TypeId) (K M O S z m : Nat) (ks : Nat → Kn) (w : World) (hc : InbAt w p tt 0 K M O S z m ks) :
    Calls Tryz.prog 64 #[.pointer (some ⟨p, 0, none⟩)] w fun e w' => e = .returned (.int .i64 (-1)) ∧ w' = w := by
  obtain ⟨c0, _⟩ := hc.head
  have c0' : w.cell? ⟨p, 0, none⟩ = some (.int .i64 0) := c0
  clear hc c0
  go_enter Tryz.func64, Tryz.ntmps64
  go_wp2_with fail
  go_ret
  exact ⟨rfl, rfl⟩

set_option maxRecDepth 100000 in
set_option maxHeartbeats 4000000 in
theorem llacks_has (p : Nat) (tt : TypeId) (c K M O S z : Nat) (ks : Nat → Kn) (w : World) (h1 : 1 ≤ c ∧ c ≤ 20) (hK : K ≤ 20) (hc : InbAt w p tt c K M O S z c ks) :
    Calls Tryz.prog 64 #[.pointer (some ⟨p, 0, none⟩)] w fun e w' => e = .returned (.int .i64 (lacksTo K ks c : Int)) ∧ w' = w := by
  obtain ⟨c0, _⟩ := hc.head
  have hb : ((c : Int) == 0) = false := by simp; omega
  have hne := fun i (hi : i < c) => qneed_any p (6 + i * 83) 1666 tt _ K (K + M) z (ofs K M O S) (ks i) w hK (hc.box hi (by omega))
  clear hc
  go_enter Tryz.func64, Tryz.ntmps64
  go_wp2_with fail
  go_loop [3, 4] (fun lv iv => ∃ i : Nat, i ≤ c ∧ iv = .int .i64 (i : Int) ∧ lv = .int .i64 (lacksTo K ks i : Int)) (fun _ iv => c - (intOf iv).toNat)
  case atStart => exact ⟨0, Nat.zero_le _, rfl, rfl⟩
  case round =>
    obtain ⟨i, hi, rfl, rfl⟩ := hrel
    have hle := lacksTo_le K ks i
    have hle2 : i * K ≤ 400 := Nat.le_trans (Nat.mul_le_mul (show i ≤ 20 by omega) hK) (by decide)
    by_cases hlt : i < c
    · have hn := hne i hlt
      have hs : lacksTo K ks (i + 1) = lacksTo K ks i + openK (ks i) K := rfl
      have ho := openK_le (ks i) K
      have Hs := hide hs
      clear hs
      have i1 : (0 : Int) ≤ (i : Int) := by omega
      have i2 : (i : Int) < 20 := by omega
      have i3 : (i : Int) < (c : Int) := by omega
      generalize lacksTo K ks i = L at *
      generalize openK (ks i) K = o at *
      have hL : L ≤ 400 := by omega
      clear hle hle2
      go_wp2_with fail
      refine hn.mono ?_
      rintro e w1 ⟨rfl, h1⟩
      obtain rfl := h1.symm
      go_wp2_with fail
      go_round
      case rel => exact ⟨i + 1, by omega, by go_num, by rw [Hs.out]; go_num⟩
      case measure => simp [intOf]; omega
    · have hjK : i = c := by omega
      have i3 : ¬ (i : Int) < (c : Int) := by omega
      have HE := hide hjK
      clear hjK hlt hle hle2
      go_wp2_with fail
      go_ret
      exact ⟨by rw [← HE.out]; rfl, rfl⟩

/-- The data of the parts. -/
def dataL (K : Nat) (F : Nat → Nat → ByteArray × Bool) (n : Nat) : List ByteArray := (List.range n).map (fun i => joinTo (F i) K)

theorem dataL_length (K : Nat) (F : Nat → Nat → ByteArray × Bool) (n : Nat) : (dataL K F n).length = n := by simp [dataL]

theorem dataL_succ (K : Nat) (F : Nat → Nat → ByteArray × Bool) (n : Nat) : dataL K F (n + 1) = dataL K F n ++ [joinTo (F n) K] := by
  unfold dataL
  rw [List.range_succ, List.map_append]; rfl

set_option maxRecDepth 100000 in
set_option maxHeartbeats 8000000 in
theorem ldata_any (p : Nat) (tt : TypeId) (c K M O S z : Nat) (ks : Nat → Kn) (F : Nat → Nat → ByteArray × Bool) (w : World) (hK : 1 ≤ K ∧ K ≤ 20) (hM : M ≤ 20) (hz : 1 ≤ z ∧ z ≤ 16) (hc20 : c ≤ 20) (hkn : ∀ i, i < c → KnOk K z (ks i)) (hc : InbAt w p tt c K M O S z c ks)
    (hF : ∀ i, i < c → ∀ j, j < K → ((F i j).2 = true ↔ (left (ks i) (ofs K M O S j) (zeroB z)).1 = 0)) (hF1 : ∀ i, i < c → ∀ j, j < K → (F i j).1 = (left (ks i) (ofs K M O S j) (zeroB z)).2) (hFs : ∀ i, i < c → ∀ j, (F i j).1.size = z) :
    Calls Tryz.prog 100 #[.pointer (some ⟨p, 0, none⟩)] w fun e w' => (((∀ i, i < c → ∀ j, j < K → (F i j).2 = true) → ∃ v, e = .returned (.tuple #[v, .int .i64 0]) ∧ w'.ownsRow w.heap.size 9 1 v c (textV (dataL K F c))) ∧ (¬ (∀ i, i < c → ∀ j, j < K → (F i j).2 = true) → e = .returned (.tuple #[.slice none 0 0, .int .i64 5]))) ∧ Below w.heap.size w w' := by
  obtain ⟨j0, gi, gz0, gz1, gz2⟩ := info_parts Tryz.infoText
  have hmk : ∀ w, (Instr.makeSlice 27 (.int .i64 0) (.int .i64 20)).run Tryz.prog w = .ok (.slice (some ⟨w.heap.size, 0, none⟩) 0 20) (w.alloc (.cells (madeCells #[.string ByteArray.empty] 20) 9)) := run_make_texts 20 (by omega)
  have hda : ∀ i, i < c → ∀ W, InbAt W p tt c K M O S z c ks → _ := fun i hi W hW => qdata_any p (6 + i * 83) 1666 tt _ K (K + M) z (ofs K M O S) (ks i) (F i) W hK (hkn i hi) (ofs_lt K M O S) hz (by omega) (by omega) (hW.box hi (by omega)) (hF i hi) (hF1 i hi) (hFs i hi)
  have hsu := dataL_succ K F
  obtain ⟨PA, hPA⟩ : ∃ PA : Prop, PA = ∀ i, i < c → ∀ j, j < K → (F i j).2 = true := ⟨_, rfl⟩
  rw [← hPA]
  have HPA := hide hPA
  clear hPA
  have HD := hide hda
  have HS := hide hsu
  clear hF hF1 hFs hkn hda hsu
  go_enter Tryz.func100, Tryz.ntmps100
  go_upto_region 2 with fail
  have hst : (w.alloc (.cells (madeCells #[.string ByteArray.empty] 20) 9)).ownsRow w.heap.size 9 1 (.slice (some ⟨w.heap.size, 0, none⟩) 0 20) 0 (textV (dataL K F 0)) := World.ownsRow_made (base := w.heap.size) (e := 9) (size := 1) w (madeCells #[.string ByteArray.empty] 20) 20 (Nat.le_refl _) (by unfold maxLen; omega) (by simp [size_madeCells])
  have hbS : Below w.heap.size w (w.alloc (.cells (madeCells #[.string ByteArray.empty] 20) 9)) := (Below.refl _ _).alloc (Nat.le_refl _) _
  generalize w.alloc (.cells (madeCells #[.string ByteArray.empty] 20) 9) = W at *
  clear hmk
  go_wp2_with fail
  go_loopw [4, 5] (fun av iv wr => ∃ i : Nat, i ≤ c ∧ iv = .int .i64 (i : Int) ∧ (∀ i', i' < i → ∀ j, j < K → (F i' j).2 = true) ∧ wr.ownsRow w.heap.size 9 1 av i (textV (dataL K F i)) ∧ Below w.heap.size w wr) (fun _ iv _ => c - (intOf iv).toNat)
  case atStart => exact ⟨0, Nat.zero_le _, rfl, fun i' h => absurd h (Nat.not_lt_zero _), hst, hbS⟩
  case round =>
    clear hst hbS
    obtain ⟨i, hi, rfl, hall, hown, hbr⟩ := hrel
    have hcr := hc.on (Nat.le_refl _) hbr
    obtain ⟨c0, _⟩ := hcr.head
    have HA := hide hall
    clear hall
    have hsw := hbr.size
    by_cases hlt : i < c
    · have hd := HD.out i hlt wr hcr
      have i1 : (0 : Int) ≤ (i : Int) := by omega
      have i2 : (i : Int) < 20 := by omega
      have i3 : (i : Int) < (c : Int) := by omega
      have hs2 := HS.out i
      have HS2 := hide hs2
      clear hs2
      go_wp2_with fail
      refine hd.mono ?_
      rintro e w1 ⟨⟨h1, h2⟩, hb1⟩
      have hbw1 := hbr.trans (hb1.mono hbr.size)
      have hown1 := owns_below hown hb1
      have hsw1 := hbw1.size
      clear hd hown c0 hcr
      by_cases hf : ∀ j, j < K → (F i j).2 = true
      · rw [h1 hf]
        have HF := hide hf
        clear h1 h2 hf hb1
        generalize joinTo (F i) K = T at *
        go_wp2_with (at_builtin; refine wpList_append_lies _ rfl (.tmp 29) (.tmp 31) 27 rfl w.heap.size 9 j0 (.string ByteArray.empty) 1 16 Tryz.underlying27 gi gz0 gz1 gz2 rfl (by decide) _ _ _ rfl (hown1.alloc _) ⟨w1.heap.size, 0, none⟩ 1 1 [.string T] rfl rfl (one_news _ _ _) (one_oneCell rfl) (by decide) (by unfold maxLen; omega) (by omega) (by simp; omega) (w1.heap.size + 1) (by simp) ?_)
        intro g6 k6 W6 hown6 hgr6 hat6 hlt6
        have hb6 := below_own hown1 hgr6 hsw1
        have hbi6 := hbw1.trans hb6
        clear hgr6 hat6 hlt6 hb6 hbw1 hown1
        go_wp2_with fail
        go_roundw
        case rel => exact ⟨i + 1, by omega, by go_num, fun i' hi' j hj => by
            by_cases e : i' < i
            · exact HA.out i' e j hj
            · have : i' = i := by omega
              rw [this]; exact HF.out j hj, by rw [HS2.out, textV_append]; exact hown6, hbi6⟩
        case measure => simp [intOf]; omega
      · rw [h2 hf]
        have HF := hide (show ¬ PA from fun h => by rw [HPA.out] at h; exact hf (h i hlt))
        clear h1 h2 hf hb1
        go_wp2_with fail
        go_ret2
        exact ⟨⟨fun h => absurd h HF.out, fun _ => rfl⟩, hbw1⟩
    · have hii : i = c := by omega
      have i3 : ¬ (i : Int) < (c : Int) := by omega
      rw [hii] at hown
      have HI := hide hii
      clear hii hlt
      go_wp2_with fail
      go_ret2
      exact ⟨⟨fun _ => ⟨_, rfl, hown⟩, fun h => absurd (by rw [HPA.out]; exact fun i' hi' => HA.out i' (by have := HI.out; omega)) h⟩, hbr⟩

set_option maxRecDepth 100000 in
set_option maxHeartbeats 8000000 in
theorem lsame_any (va vb : Value) (A B : List ByteArray) (w : World) (hl : A.length ≤ 1000000) (ha : TextsAt w va A) (hb : TextsAt w vb B) :
    Calls Tryz.prog 116 #[va, vb] w fun e w' => (A = B → e = .returned (.bool true)) ∧ (A ≠ B → e = .returned (.bool false)) ∧ Below w.heap.size w w' := by
  have hbd : ∀ n, Below w.heap.size w (w.drewN n) := fun n => ⟨rfl, rfl, rfl, Nat.le_refl _, fun _ _ => rfl⟩
  obtain ⟨aa, ca, rfl, hca, hA⟩ := ha
  obtain ⟨ab, cb, rfl, hcb, hB⟩ := hb
  have HA := hide hA
  have HB := hide hB
  clear hA hB
  by_cases hlen : A.length = B.length
  · have hne : ((A.length : Int) != (B.length : Int)) = false := by rw [hlen]; simp
    have hext : (∀ k, k < A.length → A.getD k ByteArray.empty = B.getD k ByteArray.empty) → A = B := fun h => by
      apply List.ext_getElem hlen
      intro k h1 h2
      have := h k h1
      rw [List.getD_eq_getElem?_getD, List.getD_eq_getElem?_getD, List.getElem?_eq_getElem h1, List.getElem?_eq_getElem h2] at this
      exact this
    have HX := hide hext
    have HL := hide hlen
    clear hext hlen
    obtain ⟨n, hn⟩ : ∃ n, n = A.length := ⟨_, rfl⟩
    obtain ⟨m, hm⟩ : ∃ m, m = B.length := ⟨_, rfl⟩
    rw [← hn] at hne hca HA HX HL hl ⊢
    rw [← hm] at hne hcb HB HL ⊢
    clear hn hm
    go_enter Tryz.func116, Tryz.ntmps116
    go_wp2_with fail
    go_loopw [13] (fun kv wr => ∃ k : Nat, k ≤ n ∧ kv = .int .i64 (k : Int) ∧ (∀ j, j < k → A.getD j ByteArray.empty = B.getD j ByteArray.empty) ∧ Below w.heap.size w wr) (fun kv _ => n - (intOf kv).toNat)
    case atStart => exact ⟨0, Nat.zero_le _, rfl, fun j h => absurd h (Nat.not_lt_zero _), Below.refl _ _⟩
    case round =>
      obtain ⟨k, hk, rfl, hsm, hbr⟩ := hrel
      have HSm := hide hsm
      clear hsm
      by_cases hlt : k < n
      · obtain ⟨q1, o1, rfl, hq1, t1⟩ := HA.out k hlt
        obtain ⟨q2, o2, rfl, hq2, t2⟩ := HB.out k (by have := HL.out; omega)
        have r1 := (hbr.cell (p := ⟨q1, o1 + k, none⟩) hq1).trans t1
        have r2 := (hbr.cell (p := ⟨q2, o2 + k, none⟩) hq2).trans t2
        have i1 : (0 : Int) ≤ (k : Int) := by omega
        have i2 : (k : Int) < (n : Int) := by omega
        have i3 : (k : Int) < (m : Int) := by have := HL.out; omega
        have hbN : ∀ x, Below w.heap.size w (wr.drewN x) := fun x => hbr.trans ⟨rfl, rfl, rfl, Nat.le_refl _, fun _ _ => rfl⟩
        clear t1 t2 hbd
        by_cases he : A.getD k ByteArray.empty = B.getD k ByteArray.empty
        · have HE := hide he
          rw [← he] at r2
          clear he
          obtain ⟨T, hT⟩ : ∃ T, T = A.getD k ByteArray.empty := ⟨_, rfl⟩
          rw [← hT] at r1 r2
          clear hT
          go_upto_region 6 with fail
          go_quiet (fail)
          have hbe := hbN nq
          generalize wr.drewN nq = V at *
          clear r1 r2 hbN hbr
          go_wp2_with fail
          go_roundw
          case rel => exact ⟨k + 1, by omega, by go_num, fun j hj => by
              by_cases e : j < k
              · exact HSm.out j e
              · have : j = k := by omega
                rw [this]; exact HE.out, hbe⟩
          case measure => simp [intOf]; omega
        · have HE := hide (show A ≠ B from fun e => he (by rw [e]))
          have hbb : ((A.getD k ByteArray.empty).toList == (B.getD k ByteArray.empty).toList) = false := beq_bytes he
          clear he
          generalize A.getD k ByteArray.empty = T at *
          generalize B.getD k ByteArray.empty = T2 at *
          go_upto_region 6 with fail
          go_quiet (fail)
          have hbe := hbN nq
          generalize wr.drewN nq = V at *
          clear r1 r2 hbN hbr
          go_wp2_with fail
          go_ret
          exact ⟨fun h => absurd h HE.out, fun _ => rfl, hbe⟩
      · have hk2 : k = n := by omega
        have i2 : ¬ (k : Int) < (n : Int) := by omega
        have HE := hide (HX.out (fun j hj => HSm.out j (by omega)))
        clear hk2 hlt
        go_wp2_with fail
        go_ret
        exact ⟨fun _ => rfl, fun h => absurd HE.out h, hbr⟩
  · have hne : ((A.length : Int) != (B.length : Int)) = true := by simp; omega
    have HE := hide (show A ≠ B from fun e => hlen (by rw [e]))
    clear hlen
    go_enter Tryz.func116, Tryz.ntmps116
    go_wp2_with fail
    go_ret
    exact ⟨fun h => absurd h HE.out, fun _ => rfl, Below.refl _ _⟩

end Go.Proofs.YtnjaofkieajnlaaGreat

/- The program's inbox: the parts joined; Whole. -/
namespace Go.Proofs.YtnjaofkieajnlaaGreat
open Go.RowKit

/-- Bytes that the call owns, also none, as a text. -/
theorem conv_owned (B : ByteArray) (v : Value) (n base : Nat) (w : World) (h : w.ownsRow base 5 1 v n (bytesV B)) (hn : n = B.size) : (convert 106 9 v).run Tryz.prog w = .ok (.string B) w := by
  subst hn
  rcases h.2 with ⟨rfl, h1⟩ | ⟨g, cap, cur, rfl, _⟩
  · have hB : B = ByteArray.empty := ByteArray.size_eq_zero_iff.1 h1
    rw [hB]
    exact run_convert_bytes_nil (P := Tryz.prog) w 106 5 Tryz.underlying106 Tryz.underlying5 0 0 9 Tryz.underlying9
  · have hcell := h.cells (g := g) rfl
    have hcells : ∀ j, j < B.size → w.cell? ⟨g, 0 + j, none⟩ = some (.int .u8 ((numsB B).getD j 0)) := fun j hj => by
      rw [numsB_getD, ← Addr.add_mid]
      exact hcell j _ (bytesV_getElem B j hj)
    have hcv := run_convert_bytes_arg (P := Tryz.prog) w 106 5 Tryz.underlying106 Tryz.underlying5 g 0 B.size cap (numsB B) (numsB_length B) hcells 9 Tryz.underlying9
    rw [strOfNums_numsB] at hcv
    exact hcv

theorem objText_size (t : ByteArray) : (objText t).size ≤ t.size := by
  unfold objText
  split
  · rw [ByteArray.size_extract]; omega
  · exact Nat.zero_le _

/-- The objects of the first data, and these joined. -/
def objL (D : List ByteArray) (n : Nat) : List ByteArray := (List.range n).map (fun i => objText (D.getD i ByteArray.empty))

def objW (D : List ByteArray) : Nat → ByteArray
  | 0 => ByteArray.empty
  | i + 1 => objW D i ++ objText (D.getD i ByteArray.empty)

theorem objL_length (D : List ByteArray) (n : Nat) : (objL D n).length = n := by simp [objL]

theorem objL_succ (D : List ByteArray) (n : Nat) : objL D (n + 1) = objL D n ++ [objText (D.getD n ByteArray.empty)] := by
  unfold objL
  rw [List.range_succ, List.map_append]; rfl

theorem objW_size (D : List ByteArray) (hD : ∀ i, (D.getD i ByteArray.empty).size ≤ 320) (n : Nat) : (objW D n).size ≤ n * 320 := by
  induction n with
  | zero => exact Nat.le_refl _
  | succ n ih =>
    show (objW D n ++ _).size ≤ _
    rw [ByteArray.size_append, Nat.succ_mul]
    have := objText_size (D.getD n ByteArray.empty)
    have := hD n
    omega

/-- Whether the data are those of a large object's parts. -/
def joinOk (D : List ByteArray) (n c : Nat) : Prop := (∀ i, i < c → objOk (D.getD i ByteArray.empty) = true) ∧ cutL (objW D c) n (partsN (objW D c) n) = objL D c

set_option maxRecDepth 100000 in
set_option maxHeartbeats 4000000 in
theorem ljoined_small (v : Value) (r : Int) (w : World) (hr : r < 1) :
    Calls Tryz.prog 102 #[v, .int .i64 r] w fun e w' => e = .returned (.tuple #[.string ⟨#[]⟩, .int .i64 8]) ∧ Below w.heap.size w w' := by
  go_enter Tryz.func102, Tryz.ntmps102
  go_wp2_with fail
  go_ret2
  exact ⟨rfl, Below.refl _ _⟩

theorem run_make_bytemul (a b : Nat) (hn : a * b ≤ 1000000) (w : World) : (Instr.makeSlice 106 (.int .i64 0) (.int .i64 ((a : Int) * (b : Int)))).run Tryz.prog w = .ok (.slice (some ⟨w.heap.size, 0, none⟩) 0 (a * b)) (w.alloc (.cells (madeCells #[.int .u8 0] (a * b)) 5)) := by
  have h := run_make_byteRow (a * b) hn w
  rw [show ((a * b : Nat) : Int) = (a : Int) * (b : Int) by simp] at h
  exact h

set_option maxRecDepth 100000 in
set_option maxHeartbeats 8000000 in
theorem ljoined_any (v : Value) (D : List ByteArray) (n c : Nat) (w : World) (hn : 1 ≤ n ∧ n ≤ 1000) (hDl : D.length = c) (hc : c ≤ 20) (hD : ∀ i, (D.getD i ByteArray.empty).size ≤ 320) (hT : TextsAt w v D) :
    Calls Tryz.prog 102 #[v, .int .i64 (n : Int)] w fun e w' => ((joinOk D n c → e = .returned (.tuple #[.string (objW D c), .int .i64 0])) ∧ (¬ joinOk D n c → e = .returned (.tuple #[.string ⟨#[]⟩, .int .i64 8]))) ∧ Below w.heap.size w w' := by
  obtain ⟨i0, hi0, hz0, hz1, hz2⟩ := info_parts Tryz.infoByte
  obtain ⟨j0, gi, gz0, gz1, gz2⟩ := info_parts Tryz.infoText
  obtain ⟨ao, cap, rfl, hcap, hT⟩ := hT
  rw [hDl] at hcap hT ⊢
  have hcn : c * n ≤ 20000 := Nat.le_trans (Nat.mul_le_mul hc hn.2) (by decide)
  have hmk2 := run_make_bytemul c n (by omega)
  have m1 : 0 ≤ (c : Int) * (n : Int) := Int.mul_nonneg (by omega) (by omega)
  have m2 : (c : Int) * (n : Int) ≤ 20000 := by
    have : (c : Int) * (n : Int) = ((c * n : Nat) : Int) := by simp
    omega
  have hmk := run_make_texts c (by omega)
  have hws := objW_size D hD
  have hrd := fun i W => oread_any (D.getD i ByteArray.empty) W (by have := hD i; omega)
  have hos : ∀ i, (objText (D.getD i ByteArray.empty)).size ≤ 320 := fun i => Nat.le_trans (objText_size _) (hD i)
  have HT := hide hT
  have HWS := hide hws
  have HRD := hide hrd
  have HOS := hide hos
  clear hT hws hrd hDl hos
  go_enter Tryz.func102, Tryz.ntmps102
  have n1 : ¬ (n : Int) < 1 := by omega
  go_upto_region 4 with fail
  have hst : (w.alloc (.cells (madeCells #[.string ByteArray.empty] c) 9)).ownsRow w.heap.size 9 1 (.slice (some ⟨w.heap.size, 0, none⟩) 0 c) 0 (textV (objL D 0)) := World.ownsRow_made (base := w.heap.size) (e := 9) (size := 1) w (madeCells #[.string ByteArray.empty] c) c (Nat.le_refl _) (by unfold maxLen; omega) (by simp [size_madeCells])
  have hbS : Below w.heap.size w (w.alloc (.cells (madeCells #[.string ByteArray.empty] c) 9)) := (Below.refl _ _).alloc (Nat.le_refl _) _
  generalize w.alloc (.cells (madeCells #[.string ByteArray.empty] c) 9) = W at *
  clear hmk
  go_upto_region 5 with fail
  have hst2 : (W.alloc (.cells (madeCells #[.int .u8 0] (c * n)) 5)).ownsRow w.heap.size 5 1 (.slice (some ⟨W.heap.size, 0, none⟩) 0 (c * n)) (objW D 0).size (bytesV (objW D 0)) := World.ownsRow_made (base := w.heap.size) (e := 5) (size := 1) W (madeCells #[.int .u8 0] (c * n)) (c * n) hbS.size (by unfold maxLen; omega) (by simp [size_madeCells])
  have hst3 := hst.alloc (.cells (madeCells #[.int .u8 0] (c * n)) 5)
  have hbS2 := hbS.alloc hbS.size (.cells (madeCells #[.int .u8 0] (c * n)) 5)
  generalize W.alloc (.cells (madeCells #[.int .u8 0] (c * n)) 5) = W2 at *
  clear hmk2 m1 m2 hst hbS
  generalize c * n = cn at *
  go_wp2_with fail
  go_loopw [6, 7, 26] (fun pv bv iv wr => ∃ i : Nat, i ≤ c ∧ iv = .int .i64 (i : Int) ∧ (∀ j, j < i → objOk (D.getD j ByteArray.empty) = true) ∧ wr.ownsRow w.heap.size 9 1 pv i (textV (objL D i)) ∧ wr.ownsRow w.heap.size 5 1 bv (objW D i).size (bytesV (objW D i)) ∧ Below w.heap.size w wr) (fun _ _ iv _ => c - (intOf iv).toNat)
  case atStart => exact ⟨0, Nat.zero_le _, rfl, fun j h => absurd h (Nat.not_lt_zero _), hst3, hst2, hbS2⟩
  case round =>
    clear hst3 hst2 hbS2
    obtain ⟨i, hi, rfl, hall, hop, hob, hbr⟩ := hrel
    have HA := hide hall
    clear hall
    have hsw := hbr.size
    have hwz : (objW D i).size ≤ 6400 := Nat.le_trans (HWS.out i) (Nat.le_trans (Nat.mul_le_mul_right 320 (show i ≤ 20 by omega)) (by decide))
    by_cases hlt : i < c
    · obtain ⟨q, o, rfl, hq, t1⟩ := HT.out i hlt
      have r1 := (hbr.cell (p := ⟨q, o + i, none⟩) hq).trans t1
      have hr := HRD.out i
      have ho := HOS.out i
      have hsu : objL D (i + 1) = objL D i ++ [objText (D.getD i ByteArray.empty)] := objL_succ D i
      have hsw2 : objW D (i + 1) = objW D i ++ objText (D.getD i ByteArray.empty) := rfl
      have HS1 := hide hsu
      have HS2 := hide hsw2
      have i1 : (0 : Int) ≤ (i : Int) := by omega
      have i2 : (i : Int) < (c : Int) := by omega
      clear t1 hsu hsw2
      cases hk : objOk (D.getD i ByteArray.empty) with
      | true =>
        have HK := hide hk
        clear hk
        obtain ⟨d, hd⟩ : ∃ d, d = D.getD i ByteArray.empty := ⟨_, rfl⟩
        obtain ⟨x, hx⟩ : ∃ x, x = objText (D.getD i ByteArray.empty) := ⟨_, rfl⟩
        rw [← hx] at hr ho HS1 HS2
        rw [← hd] at r1 hr
        have hK2 : objOk d = true := by rw [hd]; exact HK.out
        have HK2 := hide hK2
        clear hK2 hx hd
        go_wp2_with fail
        refine (hr _).mono ?_
        rintro e w1 ⟨⟨h1, h2⟩, hb1⟩
        rw [h1 HK2.out]
        have hbw1 := hbr.trans (hb1.mono hbr.size)
        have hop1 := owns_below hop hb1
        have hob1 := owns_below hob hb1
        have hsw1 := hbw1.size
        clear h1 h2 hr r1 hop hob hbr hb1
        go_wp2_with (at_builtin; refine wpList_append_lies _ rfl (.tmp 38) (.tmp 40) 27 rfl w.heap.size 9 j0 (.string ByteArray.empty) 1 16 Tryz.underlying27 gi gz0 gz1 gz2 rfl (by decide) _ _ _ rfl (hop1.alloc _) ⟨w1.heap.size, 0, none⟩ 1 1 [.string x] rfl rfl (one_news _ _ _) (one_oneCell rfl) (by decide) (by unfold maxLen; omega) (by omega) (by simp; omega) (w1.heap.size + 1) (by simp) ?_)
        intro g6 k6 W6 hown6 hgr6 hat6 hlt6
        have hgr := grownBy_of_alloc hgr6
        have hb6 := below_own hop1 hgr6 hsw1
        have hbi6 := hbw1.trans hb6
        have hob6 : W6.ownsRow w.heap.size 5 1 u7 (objW D i).size (bytesV (objW D i)) := hob1.kept hgr (by
          cases hx : u7.ownBlock with
          | none => exact Or.inl rfl
          | some k =>
            right
            intro e
            obtain ⟨cu, hcu⟩ := owns_block hob1 hx
            exact owns_other hop1 hcu (by decide) e.symm)
        have hsw6 := hbi6.size
        clear hgr6 hat6 hb6 hbw1 hop1 hob1 hgr
        go_wp2_with (at_builtin; refine Go.Lib.wpList_append_own_string _ rfl (.tmp 42) (.tmp 43) 106 9 rfl w.heap.size 5 i0 Tryz.underlying106 Tryz.underlying9 hi0 hz0 hz1 hz2 _ _ _ rfl hob6 x rfl (by unfold maxLen; omega) (by omega) (by omega) ?_)
        intro v5 w5 hown5 hgr5 _
        have hb5 : Below w.heap.size w w5 := hbi6.grown hgr5 hbi6.size (fun k e => (hob6.lt k e).1)
        rw [bytesV_str, ← bytesV_app] at hown5
        have hop5 := hown6.kept hgr5 (by
          right
          intro e
          obtain ⟨cu, hcu⟩ := owns_block hown6 (k := g6) rfl
          exact owns_other hob6 hcu (by decide) (by rw [← e]; rfl))
        clear hgr5 hob6 hown6 hbi6
        go_wp2_with fail
        go_roundw
        case rel => exact ⟨i + 1, by omega, by go_num, fun j hj => by
            by_cases e : j < i
            · exact HA.out j e
            · have : j = i := by omega
              rw [this]; exact HK.out, by rw [HS1.out, textV_append]; exact hop5, by rw [HS2.out, ByteArray.size_append]; exact hown5, hb5⟩
        case measure => simp [intOf]; omega
      | false =>
        have HN := hide (show ¬ joinOk D n c from fun h => by rw [h.1 i hlt] at hk; cases hk)
        have HK := hide hk
        clear hk
        go_wp2_with fail
        refine (hr _).mono ?_
        rintro e w1 ⟨⟨h1, h2⟩, hb1⟩
        rw [h2 HK.out]
        have hbw1 := hbr.trans (hb1.mono hbr.size)
        clear h1 h2 hr r1 hop hob hbr hb1
        go_wp2_with fail
        go_ret2
        exact ⟨⟨fun h => absurd h HN.out, fun _ => rfl⟩, hbw1⟩
    · have hic : i = c := by omega
      have i2 : ¬ (i : Int) < (c : Int) := by omega
      rw [hic] at hop hob hwz
      have HA2 := hide (show ∀ j, j < c → objOk (D.getD j ByteArray.empty) = true from fun j hj => HA.out j (by omega))
      have hcv := conv_owned (objW D c) u7 _ _ wr hob rfl
      have hcu := fun W => lcut_any (objW D c) n W hn (by omega)
      have hjo : joinOk D n c ↔ cutL (objW D c) n (partsN (objW D c) n) = objL D c := ⟨fun h => h.2, fun h => ⟨HA2.out, h⟩⟩
      have hcl := cutL_length (objW D c) n (partsN (objW D c) n)
      have hpn : partsN (objW D c) n ≤ 6401 := by
        unfold partsN
        split
        · omega
        · have := Nat.div_le_self ((objW D c).size + n - 1) n
          rw [Nat.div_le_iff_le_mul_add_pred (by omega)]
          have : (objW D c).size ≤ n * (objW D c).size := Nat.le_mul_of_pos_left _ (by omega)
          have : n * (objW D c).size ≤ n * 6401 := Nat.mul_le_mul_left n (by omega)
          omega
      have hll := objL_length D c
      obtain ⟨X, hX⟩ : ∃ X, X = objW D c := ⟨_, rfl⟩
      obtain ⟨C, hC⟩ : ∃ C, C = cutL (objW D c) n (partsN (objW D c) n) := ⟨_, rfl⟩
      obtain ⟨pn, hpN⟩ : ∃ pn, pn = partsN (objW D c) n := ⟨_, rfl⟩
      rw [← hC] at hcl hjo hcu
      rw [← hpN] at hcl hpn hcu
      rw [← hX] at hcv hcu
      have htp := owns_texts hop hll.symm
      have HJ := hide hjo
      have HX := hide hX
      have HCL := hide hcl
      have Hic := hide hic
      clear hjo hX hC hpN hic hlt hcl hop hob hwz hll HRD HWS HT
      go_wp2_with fail
      refine (hcu _).mono ?_
      rintro e w1 ⟨v1, rfl, hown1, hb1⟩
      have hbw1 := hbr.trans (hb1.mono hbr.size)
      have htp1 := htp.on hb1
      have htc := owns_texts hown1 HCL.out.symm
      have hsm := lsame_any v1 u6 C (objL D c) w1 (by rw [HCL.out]; omega) htc htp1
      clear hcu hown1 hb1 htp htp1 htc hbr
      go_wp2_with fail
      refine hsm.mono ?_
      rintro e w2 ⟨h1, h2, hb2⟩
      have hbw2 := hbw1.trans (hb2.mono hbw1.size)
      clear hsm hb2 hbw1
      by_cases hj : C = objL D c
      · rw [h1 hj]
        have HJJ := hide (HJ.out.2 hj)
        clear h1 h2 hj
        go_wp2_with fail
        go_ret2
        exact ⟨⟨fun _ => by rw [← HX.out]; rfl, fun h => absurd HJJ.out h⟩, hbw2⟩
      · rw [h2 hj]
        have HJJ := hide (show ¬ joinOk D n c from fun h => hj (HJ.out.1 h))
        clear h1 h2 hj
        go_wp2_with fail
        go_ret2
        exact ⟨⟨fun h => absurd h HJJ.out, fun _ => rfl⟩, hbw2⟩

end Go.Proofs.YtnjaofkieajnlaaGreat
