/- Texts of the proof, part 19. -/
import Derived.Below
import Derived.ChangeOld
import Derived.ChangeSlices
import Derived.Deep.MidRow
import Derived.Lib.SmallJoins
import Derived.OpenShut
import Derived.ProofKit
import Derived.Test.YtnjaofkieajnlaaKnownG13
import Derived.Test.YtnjaofkieajnlaaKnownG17
import Derived.Test.YtnjaofkieajnlaaKnownG3
import Derived.Test.YtnjaofkieajnlaaKnownG7
import Derived.Test.YtnjaofkieajnlaaKnownG8
import Derived.Test.YtnjaofkieajnlaaRows

/- The examples of a box, walked. -/
namespace Go.Proofs.Ytnjaofkieajnlaa
open Go.RowKit

theorem gk_ok {kn : Kn} (h : KnOk 2 2 kn) (i : Nat) (t : ByteArray) (ht : t.size = 2) : KnOk 2 2 (putK kn (ofs 2 2 1 0 i) t) := putK_ok h (by omega) ht (ofs_lt 2 2 1 0 i)

/-- A box of the examples. -/
abbrev GBox (w : World) (p : Nat) (kn : Kn) : Prop := BoxAt w p 2 4 2 (ofs 2 2 1 0) kn

theorem gput (p i : Nat) (t : ByteArray) (kn : Kn) (e : Int) (w : World) (hk : KnOk 2 2 kn) (hi : i < 4) (ht : t.size = 2) (he : putE (left kn (ofs 2 2 1 0 i) t) 2 = e) (hb : GBox w p kn) :
    Calls Try.prog 48 #[.pointer (some ⟨p, 0, none⟩), .int .i64 (i : Int), .string t] w fun r w' => r = .returned (.int .i64 e) ∧ GBox w' p (putK kn (ofs 2 2 1 0 i) t) ∧ Chg (fun k => k = p) w w' := by
  rw [← he]
  exact put_ok p 2 4 2 i t (ofs 2 2 1 0) kn w (by omega) hk (ofs_lt 2 2 1 0) (by omega) (by omega) hi ht hb

theorem gget_yes (p i : Nat) (t : ByteArray) (kn : Kn) (w : World) (hk : KnOk 2 2 kn) (hi : i < 4) (he : left kn (ofs 2 2 1 0 i) (zeroB 2) = (0, t)) (hb : GBox w p kn) :
    Calls Try.prog 50 #[.pointer (some ⟨p, 0, none⟩), .int .i64 (i : Int)] w fun r w' => r = .returned (.tuple #[.string t, .int .i64 0]) ∧ Below w.heap.size w w' := by
  have h := get_ok p 2 4 2 i (ofs 2 2 1 0) kn w (by omega) hk (ofs_lt 2 2 1 0) (by omega) (by omega) hi hb
  rw [he, if_pos rfl] at h
  exact h

theorem gget_no (p i : Nat) (kn : Kn) (w : World) (hk : KnOk 2 2 kn) (hi : i < 4) (he : (left kn (ofs 2 2 1 0 i) (zeroB 2)).1 ≠ 0) (hb : GBox w p kn) :
    Calls Try.prog 50 #[.pointer (some ⟨p, 0, none⟩), .int .i64 (i : Int)] w fun r w' => r = .returned (.tuple #[.string ⟨#[]⟩, .int .i64 5]) ∧ Below w.heap.size w w' := by
  have h := get_ok p 2 4 2 i (ofs 2 2 1 0) kn w (by omega) hk (ofs_lt 2 2 1 0) (by omega) (by omega) hi hb
  rw [if_neg he] at h
  exact h

theorem gneed (p : Nat) (kn : Kn) (n : Nat) (w : World) (hn : openK kn 2 = n) (hb : GBox w p kn) :
    Calls Try.prog 49 #[.pointer (some ⟨p, 0, none⟩)] w fun r w' => r = .returned (.int .i64 (n : Int)) ∧ w' = w := by
  rw [← hn]
  exact need_any p 2 4 2 (ofs 2 2 1 0) kn w (by omega) hb

set_option maxRecDepth 100000 in
set_option maxHeartbeats 8000000 in
theorem kboxed_any (w : World) :
    Calls Try.prog 23 #[] w fun e w' => e = .returned (.bool true) ∧ Below w.heap.size w w' := by
  have hnew : ∀ W, Calls Try.prog 47 #[specV 2 2 1 0, .int .i64 2] W fun e w' => ∃ p, e = .returned (.tuple #[.pointer (some ⟨p, 0, none⟩), .int .i64 0]) ∧ GBox w' p kn0 ∧ W.heap.size ≤ p ∧ Below W.heap.size W w' := fun W => new_ok 2 2 1 0 2 W (by omega) (by omega) (by omega) (by omega) (by omega)
  obtain ⟨a1, a2, a3, a4, a5, a6, a7, a8, a9⟩ := gold_box
  obtain ⟨b1, b2, b3, b4, b5⟩ := gold_box2
  have k0 : KnOk 2 2 kn0 := kn0_ok 2 2
  have k1 : KnOk 2 2 gk1 := gk_ok k0 0 gAB rfl
  have k2 : KnOk 2 2 gk2 := gk_ok k1 3 g26 rfl
  have k3 : KnOk 2 2 gk3 := gk_ok k2 2 gZZ rfl
  have kd : KnOk 2 2 gd1 := gk_ok k0 3 g26 rfl
  have p1 : ∀ W p, GBox W p kn0 → Calls Try.prog 48 #[.pointer (some ⟨p, 0, none⟩), .int .i64 0, .string gAB] W fun r w' => r = .returned (.int .i64 0) ∧ GBox w' p gk1 ∧ Chg (fun k => k = p) W w' := fun W p h => gput p 0 gAB kn0 0 W k0 (by omega) rfl a1 h
  have q1 : ∀ W p, GBox W p gk1 → Calls Try.prog 49 #[.pointer (some ⟨p, 0, none⟩)] W fun r w' => r = .returned (.int .i64 1) ∧ w' = W := fun W p h => gneed p gk1 1 W a2 h
  have q2 : ∀ W p, GBox W p gk1 → Calls Try.prog 50 #[.pointer (some ⟨p, 0, none⟩), .int .i64 1] W fun r w' => r = .returned (.tuple #[.string ⟨#[]⟩, .int .i64 5]) ∧ Below W.heap.size W w' := fun W p h => gget_no p 1 gk1 W k1 (by omega) a3 h
  have p2 : ∀ W p, GBox W p gk1 → Calls Try.prog 48 #[.pointer (some ⟨p, 0, none⟩), .int .i64 3, .string g26] W fun r w' => r = .returned (.int .i64 0) ∧ GBox w' p gk2 ∧ Chg (fun k => k = p) W w' := fun W p h => gput p 3 g26 gk1 0 W k1 (by omega) rfl a4 h
  have q3 : ∀ W p, GBox W p gk2 → Calls Try.prog 50 #[.pointer (some ⟨p, 0, none⟩), .int .i64 1] W fun r w' => r = .returned (.tuple #[.string gCD, .int .i64 0]) ∧ Below W.heap.size W w' := fun W p h => gget_yes p 1 gCD gk2 W k2 (by omega) a5 h
  have q4 : ∀ W p, GBox W p gk2 → Calls Try.prog 50 #[.pointer (some ⟨p, 0, none⟩), .int .i64 2] W fun r w' => r = .returned (.tuple #[.string g26, .int .i64 0]) ∧ Below W.heap.size W w' := fun W p h => gget_yes p 2 g26 gk2 W k2 (by omega) a6 h
  have q5 : ∀ W p, GBox W p gk2 → Calls Try.prog 49 #[.pointer (some ⟨p, 0, none⟩)] W fun r w' => r = .returned (.int .i64 0) ∧ w' = W := fun W p h => gneed p gk2 0 W a7 h
  have p3 : ∀ W p, GBox W p gk2 → Calls Try.prog 48 #[.pointer (some ⟨p, 0, none⟩), .int .i64 2, .string gZZ] W fun r w' => r = .returned (.int .i64 4) ∧ GBox w' p gk3 ∧ Chg (fun k => k = p) W w' := fun W p h => gput p 2 gZZ gk2 4 W k2 (by omega) rfl a8 h
  have p4 : ∀ W p, GBox W p gk3 → Calls Try.prog 48 #[.pointer (some ⟨p, 0, none⟩), .int .i64 1, .string gCD] W fun r w' => r = .returned (.int .i64 0) ∧ GBox w' p (putK gk3 (ofs 2 2 1 0 1) gCD) ∧ Chg (fun k => k = p) W w' := fun W p h => gput p 1 gCD gk3 0 W k3 (by omega) rfl a9 h
  have d1 : ∀ W p, GBox W p kn0 → Calls Try.prog 48 #[.pointer (some ⟨p, 0, none⟩), .int .i64 3, .string g26] W fun r w' => r = .returned (.int .i64 0) ∧ GBox w' p gd1 ∧ Chg (fun k => k = p) W w' := fun W p h => gput p 3 g26 kn0 0 W k0 (by omega) rfl b1 h
  have d2 : ∀ W p, GBox W p gd1 → Calls Try.prog 50 #[.pointer (some ⟨p, 0, none⟩), .int .i64 2] W fun r w' => r = .returned (.tuple #[.string g26, .int .i64 0]) ∧ Below W.heap.size W w' := fun W p h => gget_yes p 2 g26 gd1 W kd (by omega) b2 h
  have d3 : ∀ W p, GBox W p gd1 → Calls Try.prog 50 #[.pointer (some ⟨p, 0, none⟩), .int .i64 0] W fun r w' => r = .returned (.tuple #[.string ⟨#[]⟩, .int .i64 5]) ∧ Below W.heap.size W w' := fun W p h => gget_no p 0 gd1 W kd (by omega) b3 h
  have d4 : ∀ W p, GBox W p gd1 → Calls Try.prog 50 #[.pointer (some ⟨p, 0, none⟩), .int .i64 1] W fun r w' => r = .returned (.tuple #[.string ⟨#[]⟩, .int .i64 5]) ∧ Below W.heap.size W w' := fun W p h => gget_no p 1 gd1 W kd (by omega) b4 h
  have d5 : ∀ W p, GBox W p gd1 → Calls Try.prog 49 #[.pointer (some ⟨p, 0, none⟩)] W fun r w' => r = .returned (.int .i64 1) ∧ w' = W := fun W p h => gneed p gd1 1 W b5 h
  clear a1 a2 a3 a4 a5 a6 a7 a8 a9 b1 b2 b3 b4 b5 k0 k1 k2 k3 kd
  generalize putK gk3 (ofs 2 2 1 0 1) gCD = gk4 at *
  generalize gk1 = K1 at *
  generalize gk2 = K2 at *
  generalize gk3 = K3 at *
  generalize gd1 = D1 at *
  generalize kn0 = K0 at *
  go_enter Try.func23, Try.ntmps23
  go_wp2_with fail
  refine (kfirst_any _).mono ?_
  rintro e w1 ⟨rfl, hb1⟩
  go_wp2_with fail
  refine (hnew _).mono ?_
  rintro e w2 ⟨p, rfl, hp, hpl, hb2⟩
  have hbw2 := hb1.trans (hb2.mono hb1.size)
  go_wp2_with fail
  refine (kfirst_any _).mono ?_
  rintro e w3 ⟨rfl, hb3⟩
  have hbw3 := hbw2.trans (hb3.mono hbw2.size)
  have hp3 : GBox w3 p K0 := hp.on (Nat.le_refl _) hb3
  go_wp2_with fail
  refine (hnew _).mono ?_
  rintro e w4 ⟨q, rfl, hq, hql, hb4⟩
  have hbw4 := hbw3.trans (hb4.mono hbw3.size)
  have hp4 : GBox w4 p K0 := hp3.on (Nat.le_refl _) hb4
  have hpq : p ≠ q := by have := World.rowIs.lt hp3; omega
  have hwp : w.heap.size ≤ p := by have := hb1.size; omega
  have hwq : w.heap.size ≤ q := by have := hbw3.size; omega
  clear hp hp3 hb1 hb2 hb3 hb4 hbw2 hbw3 hnew
  have step : ∀ (W W' : World) (a b : Nat) (kb : Kn), GBox W b kb → a ≠ b → Chg (fun k => k = a) W W' → GBox W' b kb := fun W W' a b kb h hab hc => World.rowIs.of_block h (hc.block b (World.rowIs.lt h) (fun e => hab e.symm))
  have stepB : ∀ (W W' : World) (a : Nat), Below w.heap.size w W → w.heap.size ≤ a → Chg (fun k => k = a) W W' → Below w.heap.size w W' := fun W W' a h ha hc => below_chg h hc (fun k hk => by omega)
  have H := hide step
  have HB := hide stepB
  clear step stepB
  go_wp2_with fail
  refine (p1 _ _ hp4).mono ?_
  rintro e w5 ⟨rfl, hp5, hc⟩
  have hq5 := H.out _ _ _ _ _ hq hpq hc
  have hb5 := HB.out _ _ _ hbw4 hwp hc
  clear hp4 hq hbw4 hc p1
  go_wp2_with fail
  refine (q1 _ _ hp5).mono ?_
  rintro e w6 ⟨rfl, h6⟩
  obtain rfl := h6.symm
  go_wp2_with fail
  refine (q2 _ _ hp5).mono ?_
  rintro e w7 ⟨rfl, hb⟩
  have hp7 : GBox w7 p K1 := hp5.on (Nat.le_refl _) hb
  have hq7 : GBox w7 q K0 := hq5.on (Nat.le_refl _) hb
  have hb7 := hb5.trans (hb.mono hb5.size)
  clear hp5 hq5 hb hb5 q1 q2
  go_wp2_with fail
  refine (p2 _ _ hp7).mono ?_
  rintro e w8 ⟨rfl, hp8, hc⟩
  have hq8 := H.out _ _ _ _ _ hq7 hpq hc
  have hb8 := HB.out _ _ _ hb7 hwp hc
  clear hp7 hq7 hb7 hc p2
  go_wp2_with fail
  refine (q3 _ _ hp8).mono ?_
  rintro e w9 ⟨rfl, hb⟩
  have hp9 : GBox w9 p K2 := hp8.on (Nat.le_refl _) hb
  have hq9 : GBox w9 q K0 := hq8.on (Nat.le_refl _) hb
  have hb9 := hb8.trans (hb.mono hb8.size)
  clear hp8 hq8 hb hb8 q3
  go_wp2_with fail
  refine (q4 _ _ hp9).mono ?_
  rintro e w10 ⟨rfl, hb⟩
  have hp10 : GBox w10 p K2 := hp9.on (Nat.le_refl _) hb
  have hq10 : GBox w10 q K0 := hq9.on (Nat.le_refl _) hb
  have hb10 := hb9.trans (hb.mono hb9.size)
  clear hp9 hq9 hb hb9 q4
  go_wp2_with fail
  refine (q5 _ _ hp10).mono ?_
  rintro e w11 ⟨rfl, h11⟩
  obtain rfl := h11.symm
  go_wp2_with fail
  refine (p3 _ _ hp10).mono ?_
  rintro e w12 ⟨rfl, hp12, hc⟩
  have hq12 := H.out _ _ _ _ _ hq10 hpq hc
  have hb12 := HB.out _ _ _ hb10 hwp hc
  clear hp10 hq10 hb10 hc p3 q5
  go_wp2_with fail
  refine (p4 _ _ hp12).mono ?_
  rintro e w13 ⟨rfl, hp13, hc⟩
  have hq13 := H.out _ _ _ _ _ hq12 hpq hc
  have hb13 := HB.out _ _ _ hb12 hwp hc
  clear hp12 hq12 hb12 hc p4 hp13
  go_wp2_with fail
  refine (d1 _ _ hq13).mono ?_
  rintro e w14 ⟨rfl, hq14, hc⟩
  have hb14 := HB.out _ _ _ hb13 hwq hc
  clear hq13 hb13 hc d1
  go_wp2_with fail
  refine (d2 _ _ hq14).mono ?_
  rintro e w15 ⟨rfl, hb⟩
  have hq15 : GBox w15 q D1 := hq14.on (Nat.le_refl _) hb
  have hb15 := hb14.trans (hb.mono hb14.size)
  clear hq14 hb hb14 d2
  go_wp2_with fail
  refine (d3 _ _ hq15).mono ?_
  rintro e w16 ⟨rfl, hb⟩
  have hq16 : GBox w16 q D1 := hq15.on (Nat.le_refl _) hb
  have hb16 := hb15.trans (hb.mono hb15.size)
  clear hq15 hb hb15 d3
  go_wp2_with fail
  refine (d4 _ _ hq16).mono ?_
  rintro e w17 ⟨rfl, hb⟩
  have hq17 : GBox w17 q D1 := hq16.on (Nat.le_refl _) hb
  have hb17 := hb16.trans (hb.mono hb16.size)
  clear hq16 hb hb16 d4
  go_wp2_with fail
  refine (d5 _ _ hq17).mono ?_
  rintro e w18 ⟨rfl, h18⟩
  obtain rfl := h18.symm
  clear d5 hq17
  go_wp2_with fail
  go_ret
  exact ⟨by first | rfl | simp, hb17⟩

end Go.Proofs.Ytnjaofkieajnlaa

/- The examples of Send, of a catcher and of Mail, walked; what is refused. -/
namespace Go.Proofs.Ytnjaofkieajnlaa
open Go.RowKit

theorem gold_none : objE CS.zero = (⟨#[]⟩, 5) ∧ wantE CS.zero = -1 := by decide +kernel

theorem gs1_ok : CSok gs1 := CSok.new.hear (gP 0)

theorem gs2_ok : CSok gs2 := gs1_ok.hear (gP 3)

/-- A catcher of the examples. -/
abbrev GCat (w : World) (p : Nat) (s : CS) : Prop := ProgCat w p 0 89 100 (fun _ => undef) s

theorem GCat.on {w w' : World} {p : Nat} {s : CS} (h : GCat w p s) (hb : Below w.heap.size w w') : GCat w' p s := CatOff.on h (Nat.le_refl _) hb

set_option maxRecDepth 100000 in
set_option maxHeartbeats 8000000 in
theorem ksent_any (w : World) :
    Calls Try.prog 24 #[] w fun e w' => e = .returned (.bool true) ∧ Below w.heap.size w w' := by
  have hsen : ∀ W, Calls Try.prog 41 #[specV 2 2 1 0, .int .i64 2, .string gA] W fun e w' => ∃ v, e = .returned (.tuple #[v, .int .i64 0]) ∧ w'.ownsRow W.heap.size 9 1 v 4 (textV (packTo 2 2 1 0 2 (objWord 2 2 1 0 2 gA) 4)) ∧ Below W.heap.size W w' := fun W => send_ok 2 2 1 0 2 gA W (by omega) (by omega) (by omega) (by omega) (by omega) (by decide)
  obtain ⟨a1, a2, a3⟩ := gold_hear
  obtain ⟨n1, n2⟩ := gold_none
  have o0 : ∀ W p, GCat W p CS.zero → Calls Try.prog 52 #[.pointer (some ⟨p, 0, none⟩)] W fun e w' => e = .returned (.tuple #[.string ⟨#[]⟩, .int .i64 5]) ∧ Below W.heap.size W w' := fun W p h => by
    have := object_by p _ _ _ W (oobj_any p 0 89 100 (fun _ => undef) CS.zero W h CSok.new)
    rw [n1] at this
    exact this
  have wn : ∀ W p, GCat W p CS.zero → Calls Try.prog 53 #[.pointer (some ⟨p, 0, none⟩)] W fun e w' => e = .returned (.int .i64 (-1)) ∧ w' = W := fun W p h => by
    have := wants_by p _ _ W (owants_any p 0 89 100 (fun _ => undef) CS.zero W h CSok.new)
    rw [n2] at this
    exact this
  have h1 : ∀ W p, GCat W p CS.zero → Calls Try.prog 54 #[.pointer (some ⟨p, 0, none⟩), .string (gP 0)] W fun e w' => e = .returned (.int .i64 0) ∧ GCat w' p gs1 ∧ Chg (fun k => k = p) W w' := fun W p h => by
    have := hear_by p (gP 0) _ _ W (ohear_any p 0 89 100 (fun _ => undef) CS.zero (gP 0) W h CSok.new)
    rw [a1] at this
    exact this
  have h2 : ∀ W p, GCat W p gs1 → Calls Try.prog 54 #[.pointer (some ⟨p, 0, none⟩), .string (gP 3)] W fun e w' => e = .returned (.int .i64 0) ∧ GCat w' p gs2 ∧ Chg (fun k => k = p) W w' := fun W p h => by
    have := hear_by p (gP 3) _ _ W (ohear_any p 0 89 100 (fun _ => undef) gs1 (gP 3) W h gs1_ok)
    rw [a2] at this
    exact this
  have o2 : ∀ W p, GCat W p gs2 → Calls Try.prog 52 #[.pointer (some ⟨p, 0, none⟩)] W fun e w' => e = .returned (.tuple #[.string gA, .int .i64 0]) ∧ Below W.heap.size W w' := fun W p h => by
    have := object_by p _ _ _ W (oobj_any p 0 89 100 (fun _ => undef) gs2 W h gs2_ok)
    rw [a3] at this
    exact this
  have hpk := hide gold_pack
  have hL0 : ∀ (W : World) (g cap : Nat), W.ownsRow 0 9 1 (.slice (some ⟨g, 0, none⟩) 4 cap) 4 (textV (packTo 2 2 1 0 2 (objWord 2 2 1 0 2 gA) 4)) → W.cell? ⟨g, 0, none⟩ = some (.string (gP 0)) ∧ W.cell? ⟨g, 3, none⟩ = some (.string (gP 3)) := fun W g cap h => ⟨owns_at h (by omega) (packTo_length _ _ _ _ _ _ _), owns_at h (by omega) (packTo_length _ _ _ _ _ _ _)⟩
  clear a1 a2 a3 n1 n2
  generalize gP 0 = P0 at *
  generalize gP 3 = P3 at *
  generalize gs1 = S1 at *
  generalize gs2 = S2 at *
  generalize packTo 2 2 1 0 2 (objWord 2 2 1 0 2 gA) 4 = L at *
  have hz : ∀ W p, CatNone W p 0 89 100 (fun _ => undef) → GCat W p CS.zero := fun W p h => by show ProgCat _ _ _ _ _ _ _; rw [ProgCat.zero]; exact h
  generalize CS.zero = S0 at *
  go_enter Try.func24, Try.ntmps24
  go_wp2_with fail
  refine (kfirst_any _).mono ?_
  rintro e w1 ⟨rfl, hb1⟩
  go_wp2_with fail
  refine (hsen _).mono ?_
  rintro e w2 ⟨v2, rfl, hown, hb2⟩
  have hbw2 := hb1.trans (hb2.mono hb1.size)
  obtain ⟨g, cap, rfl, _, hg⟩ := hown.form (by omega)
  obtain ⟨t0, t3⟩ := hL0 w2 g cap (owns_low hown (Nat.zero_le _))
  clear hb1 hb2 hsen hown hL0
  go_wp2_with fail
  refine (listen_any _).mono ?_
  rintro e w3 ⟨p, rfl, hcn, hp, hb3⟩
  have hc3 := hz _ _ hcn
  have hbw3 := hbw2.trans (hb3.mono hbw2.size)
  have t0' := (hb3.cell (p := ⟨g, 0, none⟩) hg).trans t0
  have t3' := (hb3.cell (p := ⟨g, 3, none⟩) hg).trans t3
  have hgp : g ≠ p := by omega
  have hg3 := Nat.lt_of_lt_of_le hg hb3.size
  have hwp : w.heap.size ≤ p := by have := hbw2.size; omega
  clear hcn hz hbw2 hb3 t0 t3 hg hp
  go_wp2_with fail
  refine (o0 _ _ hc3).mono ?_
  rintro e w4 ⟨rfl, hb4⟩
  have hc4 := hc3.on hb4
  have hbw4 := hbw3.trans (hb4.mono hbw3.size)
  have t0 := (hb4.cell (p := ⟨g, 0, none⟩) hg3).trans t0'
  have t3 := (hb4.cell (p := ⟨g, 3, none⟩) hg3).trans t3'
  have hg4 := Nat.lt_of_lt_of_le hg3 hb4.size
  clear hc3 hbw3 hb4 t0' t3' hg3 o0
  go_wp2_with fail
  refine (wn _ _ hc4).mono ?_
  rintro e w5 ⟨rfl, h5⟩
  obtain rfl := h5.symm
  clear wn
  go_wp2_with fail
  refine (h1 _ _ hc4).mono ?_
  rintro e w6 ⟨rfl, hc6, hcg⟩
  have hbw6 : Below w.heap.size w w6 := below_chg hbw4 hcg (fun k hk => by omega)
  have t0' := (hcg.cell (a := ⟨g, 0, none⟩) hg4 hgp).trans t0
  have t3' := (hcg.cell (a := ⟨g, 3, none⟩) hg4 hgp).trans t3
  have hg6 := Nat.lt_of_lt_of_le hg4 hcg.size
  clear hc4 hbw4 hcg t0 t3 hg4 h1
  go_wp2_with fail
  refine (h2 _ _ hc6).mono ?_
  rintro e w7 ⟨rfl, hc7, hcg⟩
  have hbw7 : Below w.heap.size w w7 := below_chg hbw6 hcg (fun k hk => by omega)
  have t0 := (hcg.cell (a := ⟨g, 0, none⟩) hg6 hgp).trans t0'
  have hg7 := Nat.lt_of_lt_of_le hg6 hcg.size
  clear hc6 hbw6 hcg t0' t3' hg6 h2
  go_wp2_with fail
  refine (o2 _ _ hc7).mono ?_
  rintro e w8 ⟨rfl, hb8⟩
  have hbw8 := hbw7.trans (hb8.mono hbw7.size)
  have t0' := (hb8.cell (p := ⟨g, 0, none⟩) hg7).trans t0
  rw [hpk.out] at t0'
  clear hc7 hbw7 hb8 t0 o2 hg7
  go_wp2_with fail
  go_ret
  exact ⟨by first | rfl | simp, hbw8⟩

set_option maxRecDepth 100000 in
set_option maxHeartbeats 8000000 in
theorem kmailed_any (w : World) :
    Calls Try.prog 25 #[] w fun e w' => e = .returned (.bool true) ∧ Below w.heap.size w w' := by
  have hma : ∀ W, Calls Try.prog 43 #[specV 2 2 1 0, .int .i64 2, .string gAE, .int .i64 0] W fun e w' => ∃ v, e = .returned (.tuple #[v, .int .i64 0]) ∧ w'.ownsRow W.heap.size 9 1 v (mailT 2 2 1 0 2 gAE 0).length (textV (mailT 2 2 1 0 2 gAE 0)) ∧ Below W.heap.size W w' := fun W => mail_ok 2 2 1 0 2 gAE 0 W ⟨⟨by omega, by omega, by omega, by omega, by omega⟩, by omega, by decide, by omega⟩
  obtain ⟨a1, a2, a3, a4, a5, a6, a7⟩ := gold_mail
  have hL0 : ∀ (W : World) (g cap : Nat), W.ownsRow 0 9 1 (.slice (some ⟨g, 0, none⟩) 12 cap) 12 (textV (mailT 2 2 1 0 2 gAE 0)) → W.cell? ⟨g, 11, none⟩ = some (.string (gM 11)) ∧ W.cell? ⟨g, 10, none⟩ = some (.string (gM 10)) := fun W g cap h => ⟨owns_at h (by omega) a1, owns_at h (by omega) a1⟩
  rw [a1] at hma
  clear a1
  generalize gM 11 = T11 at *
  generalize gM 10 = T10 at *
  have e11 := byteAt_get T11 10 (by omega)
  have e10 := byteAt_get T10 10 (by omega)
  rw [a6] at e11
  rw [a7] at e10
  clear a6 a7
  generalize mailT 2 2 1 0 2 gAE 0 = L at *
  have i1 : ¬ (T11.size : Int) < 11 := by omega
  have i2 : ¬ (T10.size : Int) < 11 := by omega
  have i3 : (4 : Int) ≤ (T11.size : Int) := by omega
  have i4 : (4 : Int) ≤ (T10.size : Int) := by omega
  have i5 : (10 : Int) < (T11.size : Int) := by omega
  have i6 : (10 : Int) < (T10.size : Int) := by omega
  have s1 : ((T11.extract 0 4).toList == (ByteArray.mk #[83, 0, 3, 82]).toList) = true := by rw [a4]; simp
  have s2 : ((T10.extract 0 4).toList == (ByteArray.mk #[83, 0, 3, 82]).toList) = true := by rw [a5]; simp
  have H4 := hide (And.intro a4 a5)
  clear a4 a5
  go_enter Try.func25, Try.ntmps25
  go_wp2_with fail
  refine (kfirst_any _).mono ?_
  rintro e w1 ⟨rfl, hb1⟩
  go_wp2_with fail
  refine (hma _).mono ?_
  rintro e w2 ⟨v2, rfl, hown, hb2⟩
  have hbw2 := hb1.trans (hb2.mono hb1.size)
  obtain ⟨g, cap, rfl, _, hg⟩ := hown.form (by omega)
  obtain ⟨t0, t3⟩ := hL0 w2 g cap (owns_low hown (Nat.zero_le _))
  clear hb1 hb2 hma hown hL0
  go_upto_region 4 with fail
  go_wp2_with (first | rw [H4.out.1] | rw [H4.out.2])
  go_ret
  exact ⟨by first | rfl | simp, hbw2⟩

abbrev badC : Array Value := #[.int .i64 0, .int .i64 2, .int .i64 1, .int .i64 0, .int .i64 21, .int .i64 2, .int .i64 1, .int .i64 0, .int .i64 2, .int .i64 0, .int .i64 1, .int .i64 0, .int .i64 2, .int .i64 21, .int .i64 1, .int .i64 0, .int .i64 2, .int .i64 2, .int .i64 0, .int .i64 0, .int .i64 2, .int .i64 2, .int .i64 3, .int .i64 0, .int .i64 2, .int .i64 2, .int .i64 1, .int .i64 (-1), .int .i64 2, .int .i64 2, .int .i64 1, .int .i64 65536]

theorem bad_cells (i : Nat) (hi : i < 8) : ∃ K M O S : Int, mayB K M O S = false ∧ badC[i * 4]? = some (.int .i64 K) ∧ badC[i * 4 + 1]? = some (.int .i64 M) ∧ badC[i * 4 + 2]? = some (.int .i64 O) ∧ badC[i * 4 + 3]? = some (.int .i64 S) := by
  have : i = 0 ∨ i = 1 ∨ i = 2 ∨ i = 3 ∨ i = 4 ∨ i = 5 ∨ i = 6 ∨ i = 7 := by omega
  rcases this with rfl | rfl | rfl | rfl | rfl | rfl | rfl | rfl
  · exact ⟨0, 2, 1, 0, by decide, rfl, rfl, rfl, rfl⟩
  · exact ⟨21, 2, 1, 0, by decide, rfl, rfl, rfl, rfl⟩
  · exact ⟨2, 0, 1, 0, by decide, rfl, rfl, rfl, rfl⟩
  · exact ⟨2, 21, 1, 0, by decide, rfl, rfl, rfl, rfl⟩
  · exact ⟨2, 2, 0, 0, by decide, rfl, rfl, rfl, rfl⟩
  · exact ⟨2, 2, 3, 0, by decide, rfl, rfl, rfl, rfl⟩
  · exact ⟨2, 2, 1, -1, by decide, rfl, rfl, rfl, rfl⟩
  · exact ⟨2, 2, 1, 65536, by decide, rfl, rfl, rfl, rfl⟩

set_option maxRecDepth 100000 in
set_option maxHeartbeats 8000000 in
theorem krefused_any (w : World) :
    Calls Try.prog 26 #[] w fun e w' => e = .returned (.bool true) ∧ Below w.heap.size w w' := by
  have ha1 : ∀ W, Calls Try.prog 47 #[specV 2 2 1 0, .int .i64 0] W fun e w' => e = .returned (.tuple #[.pointer none, .int .i64 2]) ∧ Below W.heap.size W w' := fun W => new_arg 2 2 1 0 0 W (by omega) (by omega) (by omega) (by omega) (by omega)
  have ha2 : ∀ W, Calls Try.prog 47 #[specV 2 2 1 0, .int .i64 17] W fun e w' => e = .returned (.tuple #[.pointer none, .int .i64 2]) ∧ Below W.heap.size W w' := fun W => new_arg 2 2 1 0 17 W (by omega) (by omega) (by omega) (by omega) (by omega)
  have hbA : Below w.heap.size w (w.alloc (.cells badC 23)) := (Below.refl _ _).alloc (Nat.le_refl _) _
  have hbl : (w.alloc (.cells badC 23)).heap[w.heap.size]? = some (.cells badC 23 (0, 0)) := heap_alloc_new w _
  have hcell : ∀ W, Below w.heap.size w W → W.heap[w.heap.size]? = some (.cells badC 23 (0, 0)) → ∀ i, i < 8 → ∃ K M O S : Int, mayB K M O S = false ∧ W.cell? ⟨w.heap.size, i * 4, none⟩ = some (.int .i64 K) ∧ W.cell? ⟨w.heap.size, i * 4 + 1, none⟩ = some (.int .i64 M) ∧ W.cell? ⟨w.heap.size, i * 4 + 2, none⟩ = some (.int .i64 O) ∧ W.cell? ⟨w.heap.size, i * 4 + 3, none⟩ = some (.int .i64 S) := fun W _ hW i hi => by
    obtain ⟨K, M, O, S, h, h0, h1, h2, h3⟩ := bad_cells i hi
    exact ⟨K, M, O, S, h, by rw [cell_of_row _ _ _ _ _ _ hW]; exact h0, by rw [cell_of_row _ _ _ _ _ _ hW]; exact h1, by rw [cell_of_row _ _ _ _ _ _ hW]; exact h2, by rw [cell_of_row _ _ _ _ _ _ hW]; exact h3⟩
  have HC := hide hcell
  clear hcell
  go_enter Try.func26, Try.ntmps26
  go_upto_region 2 with fail
  generalize w.alloc (.cells badC 23) = W at *
  generalize badC = bc at *
  have hwl : w.heap.size < W.heap.size := (Array.getElem?_eq_some_iff.1 hbl).1
  go_wp2_with fail
  go_loopw [22] (fun iv wr => ∃ i : Nat, i ≤ 8 ∧ iv = .int .i64 (i : Int) ∧ wr.heap[w.heap.size]? = some (.cells bc 23 (0, 0)) ∧ Below w.heap.size w wr) (fun iv _ => 8 - (intOf iv).toNat)
  case atStart => exact ⟨0, by omega, rfl, hbl, hbA⟩
  case round =>
    clear hbl hbA
    obtain ⟨i, hi, rfl, hbk, hbr⟩ := hrel
    by_cases hlt : i < 8
    · obtain ⟨K, M, O, S, hmay, c0, c1, c2, c3⟩ := HC.out wr hbr hbk i hlt
      have hr := fun V => rows_bad K M O S V hmay
      have hn := fun V => new_bad K M O S 0 V hmay
      have i1 : (0 : Int) ≤ (i : Int) := by omega
      have i2 : (i : Int) < 8 := by omega
      have hwr := hbr.size
      have hwl2 : w.heap.size < wr.heap.size := (Array.getElem?_eq_some_iff.1 hbk).1
      clear hmay
      go_wp2_with fail
      refine (hr _).mono ?_
      rintro e w1 ⟨rfl, hb1⟩
      have hbw1 := hbr.trans (hb1.mono hbr.size)
      have hbk1 := block_on hbk hb1
      have d0 := (hb1.cell (p := ⟨w.heap.size, i * 4, none⟩) hwl2).trans c0
      have d1 := (hb1.cell (p := ⟨w.heap.size, i * 4 + 1, none⟩) hwl2).trans c1
      have d2 := (hb1.cell (p := ⟨w.heap.size, i * 4 + 2, none⟩) hwl2).trans c2
      have d3 := (hb1.cell (p := ⟨w.heap.size, i * 4 + 3, none⟩) hwl2).trans c3
      clear c0 c1 c2 c3 hr hbk hbr hb1
      go_wp2_with fail
      refine (hn _).mono ?_
      rintro e w2 ⟨rfl, hb2⟩
      have hbw2 := hbw1.trans (hb2.mono hbw1.size)
      have hbk2 := block_on hbk1 hb2
      clear d0 d1 d2 d3 hn hbk1 hbw1 hb2
      go_wp2_with fail
      go_roundw
      case rel => exact ⟨i + 1, by omega, by go_num, hbk2, hbw2⟩
      case measure => simp [intOf]; omega
    · have i2 : ¬ (i : Int) < 8 := by omega
      clear hbk HC
      go_wp2_with fail
      refine (kfirst_any _).mono ?_
      rintro e w1 ⟨rfl, hb1⟩
      have hbw1 := hbr.trans (hb1.mono hbr.size)
      go_wp2_with fail
      refine (ha1 _).mono ?_
      rintro e w2 ⟨rfl, hb2⟩
      have hbw2 := hbw1.trans (hb2.mono hbw1.size)
      go_wp2_with fail
      refine (kfirst_any _).mono ?_
      rintro e w3 ⟨rfl, hb3⟩
      have hbw3 := hbw2.trans (hb3.mono hbw2.size)
      go_wp2_with fail
      refine (ha2 _).mono ?_
      rintro e w4 ⟨rfl, hb4⟩
      have hbw4 := hbw3.trans (hb4.mono hbw3.size)
      clear hb1 hb2 hb3 hb4 hbw1 hbw2 hbw3 hbr ha1 ha2
      go_wp2_with fail
      go_ret
      exact ⟨by first | rfl | simp, hbw4⟩

set_option maxRecDepth 100000 in
set_option maxHeartbeats 4000000 in
theorem known_any (c : Int) (w : World) (h1 : -9223372036854775808 ≤ c) (h2 : c ≤ 9223372036854775807) :
    Calls Try.prog 8 #[.int .i64 c] w fun e w' => e = .returned (.bool true) ∧ Below w.heap.size w w' := by
  have hpi := fun W => pick_any c 5 W h1 h2 (by omega)
  have hr1 := Int.emod_nonneg (rawOf c) (show (5 : Int) ≠ 0 by omega)
  have hr2 := Int.emod_lt_of_pos (rawOf c) (show (0 : Int) < 5 by omega)
  generalize rawOf c % 5 = r at *
  have hor : r = 0 ∨ r = 1 ∨ r = 2 ∨ r = 3 ∨ r = 4 := by omega
  clear hr1 hr2
  rcases hor with rfl | rfl | rfl | rfl | rfl
  · go_enter Try.func8, Try.ntmps8
    go_wp2_with fail
    refine (hpi _).mono ?_
    rintro e w1 ⟨rfl, e1⟩
    obtain rfl := e1.symm
    go_wp2_with fail
    refine (krowed_any _).mono ?_
    rintro e w2 ⟨rfl, hb⟩
    go_wp2_with fail
    go_ret
    exact ⟨rfl, hb⟩
  · go_enter Try.func8, Try.ntmps8
    go_wp2_with fail
    refine (hpi _).mono ?_
    rintro e w1 ⟨rfl, e1⟩
    obtain rfl := e1.symm
    go_wp2_with fail
    refine (kboxed_any _).mono ?_
    rintro e w2 ⟨rfl, hb⟩
    go_wp2_with fail
    go_ret
    exact ⟨rfl, hb⟩
  · go_enter Try.func8, Try.ntmps8
    go_wp2_with fail
    refine (hpi _).mono ?_
    rintro e w1 ⟨rfl, e1⟩
    obtain rfl := e1.symm
    go_wp2_with fail
    refine (ksent_any _).mono ?_
    rintro e w2 ⟨rfl, hb⟩
    go_wp2_with fail
    go_ret
    exact ⟨rfl, hb⟩
  · go_enter Try.func8, Try.ntmps8
    go_wp2_with fail
    refine (hpi _).mono ?_
    rintro e w1 ⟨rfl, e1⟩
    obtain rfl := e1.symm
    go_wp2_with fail
    refine (kmailed_any _).mono ?_
    rintro e w2 ⟨rfl, hb⟩
    go_wp2_with fail
    go_ret
    exact ⟨rfl, hb⟩
  · go_enter Try.func8, Try.ntmps8
    go_wp2_with fail
    refine (hpi _).mono ?_
    rintro e w1 ⟨rfl, e1⟩
    obtain rfl := e1.symm
    go_wp2_with fail
    refine (krefused_any _).mono ?_
    rintro e w2 ⟨rfl, hb⟩
    go_wp2_with fail
    go_ret
    exact ⟨rfl, hb⟩

end Go.Proofs.Ytnjaofkieajnlaa

/- A box with pieces of a word put in. -/
namespace Go.Proofs.Ytnjaofkieajnlaa
open Go.RowKit

/-- A slice of ints that came in, as it is read. -/
def IntsAt (w : World) (v : Value) (l : List Int) : Prop :=
  ∃ ao cap, v = .slice ao l.length cap ∧ l.length ≤ cap ∧ ∀ k, k < l.length → ∃ q o, ao = some ⟨q, o, none⟩ ∧ q < w.heap.size ∧ w.cell? ⟨q, o + k, none⟩ = some (.int .i64 (l.getD k 0)) ∧ -9223372036854775808 ≤ l.getD k 0 ∧ l.getD k 0 ≤ 9223372036854775807

theorem IntsAt.on {w w1 : World} {v : Value} {l : List Int} (h : IntsAt w v l) {m : Nat} (hm : w.heap.size ≤ m) (hb : Below m w w1) : IntsAt w1 v l := by
  obtain ⟨ao, cap, hv, hc, h⟩ := h
  refine ⟨ao, cap, hv, hc, fun k hk => ?_⟩
  obtain ⟨q, o, ha, hq, h1, h2⟩ := h k hk
  exact ⟨q, o, ha, Nat.lt_of_lt_of_le hq hb.size, by rw [hb.cell (p := ⟨q, o + k, none⟩) (Nat.lt_of_lt_of_le hq hm)]; exact h1, h2⟩

theorem pick_place (c : Int) (n : Nat) (hn : 0 < n) : rawOf c % (n : Int) = (placeOf n c : Int) := by
  unfold placeOf rawOf
  have h1 := Int.emod_nonneg (if c < 0 then -(c + 1) else c) (show (n : Int) ≠ 0 by omega)
  omega

end Go.Proofs.Ytnjaofkieajnlaa

/- For every specification, whatever its four numbers, the law Rowed answers true: the program's Rows gives what the document asks, or its error; no condition. -/
namespace Go.Proofs.Ytnjaofkieajnlaa
open Go.ChangeShapes Go.WideShapes Go.ChangeAt Go.RowKit Go.Joins

theorem Try.own : ownKnob Try.prog.godebug = none := by kernel_rfl
theorem Try.laidOut : laidOutB Try.prog = true := by kernel_rfl
theorem Try.cellsSpec : Try.prog.cellsOf 23 = 4 := by kernel_rfl

set_option maxRecDepth 100000 in
theorem rowed_lifted (os : Os) (started : os.Started) (H : Type) (enc : TypeId × Value → H) :
    ReturnsInHanded {} Try.checked os 3 .any (Rows.rowedSpec.pre6 enc Try.prog Try.f3 Rows.rowedRow.domain false) (Rows.rowedSpec.post enc Try.prog Try.f3 false true false false) := by
  refine returnsInHanded_of_change (C := Try.checked) Try.own started (by kernel_rfl) Try.func3
    (ChangeSpec.witness6 (enc := enc) (C := Try.checked) false ⟨#[], #[.agg #[.int .i64 0, .int .i64 0, .int .i64 0, .int .i64 0]], []⟩ 8 (by kernel_rfl) (by kernel_rfl) (by kernel_rfl) (by kernel_rfl)) ?_
  intro W base args ds gs before hval0 hW hcnd _
  have hval : ∀ (j : Nat) t v, Try.f3.params[j]? = some t → args[j]? = some v → Value.okWide Try.prog W .any base t v := hval0
  have hW' := hW
  obtain ⟨p, q, hA0, hV, rfl, hfz, hnd⟩ := hW
  have hA : DataW.TrodAll enc Try.prog W 0 (fun _ => true) true Try.f3.params.toList args.toList ds p := hA0
  rw [Try.params3] at hA hval
  obtain ⟨v0, d0, rfl, rfl, h0⟩ := trodAll_one hA
  obtain ⟨rfl, rfl⟩ := trodVars_none hV
  have k0 := h0
  have lt0 : ∀ x ∈ p, x.block < W.heap.size := by obtain ⟨m, hm⟩ := k0; exact DataW.trod_lt m _ _ _ hm
  obtain ⟨c0, c1, c2, c3, y0, y1, y2, y3, m, rfl, rfl, _, hy0, hy1, hy2, hy3⟩ := open_agg4 Try.underlying23 (by kernel_rfl) Try.cellsSpec (hval 0 23 v0 rfl rfl) h0
  obtain ⟨K, e0, _, _⟩ := DataW.trod_int Try.underlying3 hy0
  obtain ⟨M, e1, _, _⟩ := DataW.trod_int Try.underlying3 hy1
  obtain ⟨O, e2, _, _⟩ := DataW.trod_int Try.underlying3 hy2
  obtain ⟨S, e3, _, _⟩ := DataW.trod_int Try.underlying3 hy3
  simp at e0 e1 e2 e3
  subst e0 e1 e2 e3
  clear hA0 hval0
  refine (rowed_any K M O S W).mono fun e W' ⟨he, bel⟩ => ?_
  subst he
  exact ⟨_, rfl, _, _, _, [], _, [], hW', trodAll_mk1 (shut_bool Try.underlying4 _), trodAll_mk1 (Below.trod Try.laidOut (by kernel_rfl) (of_decide_eq_true (by kernel_rfl)) k0 bel lt0), rfl, bel.frame _, fun h => by cases h⟩

theorem rowed_holds : Rows.RowedSaid :=
  OpenClaim.holds_of_wide 3 Try.f3 rfl rfl rfl rfl rfl rfl rfl ⟨rfl, rfl, rfl, rfl, rfl⟩ rfl rfl rfl rfl rfl (by kernel_rfl) Try.func3 (by kernel_rfl)
    (of_decide_eq_true (by kernel_rfl)) (by unfold Func.isWrapper; first | (rw [if_pos (by decide +kernel)]; kernel_rfl) | (rw [if_neg (by decide +kernel)]; exact ⟨rfl, rfl⟩))
    (fun os started H enc _ => rowed_lifted os started H enc)

end Go.Proofs.Ytnjaofkieajnlaa

/- A slice of ints that came in, opened. -/
namespace Go.Proofs.Ytnjaofkieajnlaa
open Go.ChangeShapes Go.WideShapes Go.ChangeAt Go.RowKit Go.Joins

theorem Try.cellsInt : Try.prog.cellsOf 3 = 1 := by kernel_rfl

set_option maxRecDepth 100000 in
/-- A slice of ints that came in. -/
theorem ints_open {H : Type} {enc : TypeId × Value → H} {W : World} {v : Value} {d : DataW H} {p : List MemPlace} {base : Nat} (hv : Value.okWide Try.prog W .any base 52 v)
    (h : DataW.Trod enc Try.prog W 0 (fun _ => true) true 52 v d p) : ∃ l : List Int, IntsAt W v l ∧ l.length ≤ 9223372036854775807 := by
  obtain ⟨a0, len, cap, rfl⟩ := okWide_slice Try.underlying52 hv
  obtain ⟨fuel, hf⟩ := h
  rcases open_ints Try.underlying52 Try.underlying3 Try.cellsInt hf with ⟨hcs, _⟩ | ⟨x, l, c, zs, hcs, _, hl, hm, hz, hx, hcell, hwf⟩
  · simp [Value.cells] at hcs
    obtain ⟨rfl, rfl, rfl⟩ := hcs
    exact ⟨[], ⟨none, 0, rfl, Nat.le_refl _, fun k hk => by simp at hk⟩, by simp⟩
  · simp [Value.cells] at hcs
    obtain ⟨rfl, rfl, rfl⟩ := hcs
    have hss : zs.length = cap := by simpa using hz
    have hlen : (zs.take len).length = len := by rw [List.length_take]; omega
    unfold maxLen at hm
    refine ⟨zs.take len, ⟨some x, cap, by rw [hlen], by rw [hlen]; exact hl, fun k hk => ?_⟩, by rw [hlen]; omega⟩
    rw [hlen] at hk
    have hc := hcell k (by omega)
    have hb := block_lt_of_cell hc
    obtain ⟨b, off, sp⟩ := x
    have hsp : sp = none := by
      cases sp with
      | none => rfl
      | some s =>
        have h0 := hcell 0 (by omega)
        unfold Addr.add at h0
        unfold World.cell? at h0
        simp at h0
        split at h0 <;> simp at h0
    subst hsp
    rw [Addr.add_mid] at hc hb
    have hg : (zs.take len).getD k 0 = zs.getD k 0 := by simp [List.getD_eq_getElem?_getD, hk]
    have hbd := bounds_i64 (hwf (zs.getD k 0) (by rw [List.getD_eq_getElem?_getD, List.getElem?_eq_getElem (show k < zs.length by omega)]; exact List.getElem_mem _))
    exact ⟨b, off, rfl, hb, by rw [hc, hg], by rw [hg]; exact hbd.1, by rw [hg]; exact hbd.2⟩

end Go.Proofs.Ytnjaofkieajnlaa
