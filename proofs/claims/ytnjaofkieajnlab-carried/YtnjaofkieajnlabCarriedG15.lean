/- Texts of the proof, part 16. -/
import Derived.Below
import Derived.ChangeOld
import Derived.ChangeSlices
import Derived.Deep.MidRow
import Derived.Lib.SmallJoins
import Derived.OpenShut
import Derived.ProofKit
import Derived.Test.YtnjaofkieajnlabCarriedG11
import Derived.Test.YtnjaofkieajnlabCarriedG14
import Derived.Test.YtnjaofkieajnlabCarriedG3
import Derived.Test.YtnjaofkieajnlabCarriedG6
import Derived.Test.YtnjaofkieajnlabCarriedG7
import Derived.Test.YtnjaofkieajnlabRows

/- A box with pieces of a word put in. -/
namespace Go.Proofs.Ytnjaofkieajnlab
open Go.RowKit

/-- A slice of ints that came in, as it is read. -/
def IntsAt (w : World) (v : Value) (l : List Int) : Prop :=
  ∃ ao cap, v = .slice ao l.length cap ∧ l.length ≤ cap ∧ ∀ k, k < l.length → ∃ q o, ao = some ⟨q, o, none⟩ ∧ q < w.heap.size ∧ w.cell? ⟨q, o + k, none⟩ = some (.int .i64 (l.getD k 0)) ∧ -9223372036854775808 ≤ l.getD k 0 ∧ l.getD k 0 ≤ 9223372036854775807

theorem IntsAt.on {w w1 : World} {v : Value} {l : List Int} (h : IntsAt w v l) {m : Nat} (hm : w.heap.size ≤ m) (hb : Below m w w1) : IntsAt w1 v l := by
  obtain ⟨ao, cap, hv, hc, h⟩ := h
  refine ⟨ao, cap, hv, hc, fun k hk => ?_⟩
  obtain ⟨q, o, ha, hq, h1, h2⟩ := h k hk
  exact ⟨q, o, ha, Nat.lt_of_lt_of_le hq hb.size, by rw [hb.cell (p := ⟨q, o + k, none⟩) (Nat.lt_of_lt_of_le hq hm)]; exact h1, h2⟩

theorem pick_place (c : Int) (n : Nat) (hn : 0 < n) : rawOf c % (n : Int) = (placeOf n c : Int) := by
  unfold placeOf rawOf
  have h1 := Int.emod_nonneg (if c < 0 then -(c + 1) else c) (show (n : Int) ≠ 0 by omega)
  omega

set_option maxRecDepth 100000 in
set_option maxHeartbeats 4000000 in
theorem filled_ok (K M O S z : Nat) (v av : Value) (P : List ByteArray) (l : List Int) (w : World) (hs : SpecOk K M O S z) (hw : IsWord K M O S z P) (ht : TextsAt w v P) (ha : IntsAt w av l) (hl : l.length ≤ 9223372036854775807) :
    Calls Try.prog 11 #[specV K M O S, .int .i64 (z : Int), v, av] w fun e w' => ∃ p, e = .returned (.pointer (some ⟨p, 0, none⟩)) ∧ w.heap.size ≤ p ∧ BoxAt w' p K (K + M) z (ofs K M O S) (fillTo K M O S P l l.length) ∧ Below w.heap.size w w' := by
  obtain ⟨hK, hM, hO, hS, hz⟩ := hs
  obtain ⟨ao, acap, rfl, hac, ha⟩ := ha
  obtain ⟨to_, tcap, rfl, htc, ht⟩ := ht
  have hlen := hw.len
  have HA := hide ha
  have HT := hide ht
  have HW := hide hw
  have hfok := fun k => fillTo_ok hw hK l k
  have hfs : ∀ k, fillTo K M O S P l (k + 1) = putK (fillTo K M O S P l k) (ofs K M O S (placeOf (K + M) (l.getD k 0))) (P.getD (placeOf (K + M) (l.getD k 0)) ByteArray.empty) := fun k => rfl
  have HF := hide hfok
  have HS := hide hfs
  clear ha ht hw hfok hfs
  go_enter Try.func11, Try.ntmps11
  go_wp2_with fail
  refine (new_ok K M O S z _ hK hM hO hS hz).mono ?_
  rintro e w1 ⟨p, rfl, hbox, hp, hb1⟩
  rw [World.size_alloc] at hp hb1
  have hbw : Below w.heap.size w w1 := ((Below.refl _ _).alloc (Nat.le_refl _) _).trans (hb1.mono (by omega))
  clear hb1
  go_wp2_with fail
  go_loopw [28] (fun iv wr => ∃ k : Nat, k ≤ l.length ∧ iv = .int .i64 (k : Int) ∧ BoxAt wr p K (K + M) z (ofs K M O S) (fillTo K M O S P l k) ∧ Below w.heap.size w wr) (fun iv _ => l.length - (intOf iv).toNat)
  case atStart => exact ⟨0, Nat.zero_le _, rfl, hbox, hbw⟩
  case round =>
    clear hbox hbw
    obtain ⟨k, hk, rfl, hbox, hbw⟩ := hrel
    by_cases hlt : k < l.length
    · obtain ⟨q, o, rfl, hq, hc, c1, c2⟩ := HA.out k hlt
      have hc2 := (hbw.cell (p := ⟨q, o + k, none⟩) hq).trans hc
      have hsk := HS.out k
      have hok := HF.out k
      have hpl := placeOf_lt (K + M) (l.getD k 0) (by omega)
      have hpp := pick_place (l.getD k 0) (K + M) (by omega)
      rw [Int.natCast_add] at hpp
      obtain ⟨q2, o2, rfl, hq2, ht2⟩ := HT.out (placeOf (K + M) (l.getD k 0)) (by omega)
      have ht3 := (hbw.cell (p := ⟨q2, o2 + placeOf (K + M) (l.getD k 0), none⟩) hq2).trans ht2
      have hpe : putE (left (fillTo K M O S P l k) (ofs K M O S (placeOf (K + M) (l.getD k 0))) (P.getD (placeOf (K + M) (l.getD k 0)) ByteArray.empty)) z = 0 := by
        unfold putE
        rw [if_neg (fun h => h.2 (hok.nought HW.out hpl h.1))]
      have hps := HW.out.at_size hpl
      have Hsk := hide hsk
      have Hpe := hide hpe
      clear hc ht2 hsk hpe
      generalize l.getD k 0 = c at *
      generalize placeOf (K + M) c = pl at *
      generalize P.getD pl ByteArray.empty = pc at *
      have i1 : (0 : Int) ≤ (k : Int) := by omega
      have i2 : (k : Int) < (l.length : Int) := by omega
      have i3 : (0 : Int) ≤ (pl : Int) := by omega
      have i4 : (pl : Int) < (K : Int) + (M : Int) := by omega
      have Hpp := hide hpp
      clear hpp
      go_wp2_with fail
      refine (pick_any c _ _ c1 c2 (by omega)).mono ?_
      rintro e w2 ⟨rfl, hw2⟩
      obtain rfl := hw2.symm
      rw [Hpp.out]
      go_wp2_with fail
      refine (put_ok p K (K + M) z pl _ (ofs K M O S) _ _ hK.2 hok.ok (ofs_lt K M O S) (by omega) (by omega) hpl hps hbox).mono ?_
      rintro e w3 ⟨rfl, hbox3, hcg⟩
      rw [Hpe.out]
      have hbw3 := below_chg hbw hcg (fun k hk => by rw [hk]; omega)
      rw [← Hsk.out] at hbox3
      clear hbox hcg hbw hc2 ht3
      go_wp2_with fail
      go_roundw
      case rel => exact ⟨k + 1, by omega, by go_num, hbox3, hbw3⟩
      case measure => simp [intOf]; omega
    · have hkk : k = l.length := by omega
      subst hkk
      go_wp2_with fail
      go_ret
      exact ⟨p, rfl, by omega, hbox, hbw⟩

end Go.Proofs.Ytnjaofkieajnlab

/- Carried: an object arrives whole or not at all. -/
namespace Go.Proofs.Ytnjaofkieajnlab
open Go.RowKit

set_option maxRecDepth 100000 in
set_option maxHeartbeats 4000000 in
theorem kobject_any (K M O S z : Nat) (t : ByteArray) (w : World) (hK : K ≤ 20) (hz : z ≤ 16) (hKz : 2 ≤ K * z) :
    Calls Try.prog 17 #[specV K M O S, .int .i64 (z : Int), .string t] w fun e w' => ∃ o, e = .returned (.string o) ∧ o.size + 2 ≤ K * z ∧ Below w.heap.size w w' := by
  have hb1 : K * z ≤ 320 := Nat.le_trans (Nat.mul_le_mul hK hz) (by decide)
  have hc : (K : Int) * (z : Int) = ((K * z : Nat) : Int) := by simp
  have c1 : (K : Int) * (z : Int) ≤ 320 := by rw [hc]; omega
  have c2 : (2 : Int) ≤ (K : Int) * (z : Int) := by rw [hc]; omega
  have Hc := hide hc
  clear hc
  have hbA : Below w.heap.size w (w.alloc (specB K M O S)) := (Below.refl _ _).alloc (Nat.le_refl _) _
  by_cases h : (K : Int) * (z : Int) - 2 < (t.size : Int)
  · go_enter Try.func17, Try.ntmps17
    go_wp2_with fail
    go_ret
    refine ⟨_, rfl, ?_, hbA⟩
    have := Hc.out
    rw [ByteArray.size_extract]
    omega
  · go_enter Try.func17, Try.ntmps17
    go_wp2_with fail
    go_ret
    refine ⟨_, rfl, ?_, hbA⟩
    have := Hc.out
    omega

set_option maxRecDepth 100000 in
set_option maxHeartbeats 8000000 in
theorem carried_any (c : Int) (text : ByteArray) (av : Value) (at_ : List Int) (bit : Int) (w : World) (h1 : -9223372036854775808 ≤ c) (h2 : c ≤ 9223372036854775807) (ha : IntsAt w av at_) (hal : at_.length ≤ 9223372036854775807) (g1 : -9223372036854775808 ≤ bit) (g2 : bit ≤ 9223372036854775807) :
    Calls Try.prog 6 #[.int .i64 c, .string text, av, .int .i64 bit] w fun e w' => e = .returned (.bool true) ∧ Below w.heap.size w w' := by
  go_enter Try.func6, Try.ntmps6
  go_wp2_with fail
  refine (spec_any c _ h1 h2).mono ?_
  rintro e w1 ⟨K, M, O, S, z, rfl, hs, hb1⟩
  have Hs := hide hs
  have hz := hs.hz
  have hK := hs.hK
  have hM := hs.hM
  have hO := hs.hO
  have hS := hs.hS
  clear hs
  have hsp : (w1.alloc (specB K M O S)).heap[w1.heap.size]? = some (specB K M O S) := heap_alloc_new w1 _
  have hbA : Below w.heap.size w (w1.alloc (specB K M O S)) := hb1.alloc hb1.size _
  have hc0 : (K : Int) * (z : Int) = ((K * z : Nat) : Int) := by simp
  have hb320 : K * z ≤ 320 := Nat.le_trans (Nat.mul_le_mul hK.2 hz.2) (by decide)
  have hpos : 1 ≤ K * z := Nat.mul_pos (by omega) (by omega)
  have c1 : (K : Int) * (z : Int) ≤ 320 := by rw [hc0]; omega
  have c2 : (1 : Int) ≤ (K : Int) * (z : Int) := by rw [hc0]; omega
  obtain ⟨x0, x1, x2, x3⟩ := spec_cells hsp
  have f0 : (w1.alloc (specB K M O S)).frozen? ⟨w1.heap.size, 0, none⟩ = false := found_frozen hsp 0
  have Hc0 := hide hc0
  clear hc0
  go_upto_region 2 with fail
  generalize w1.alloc (specB K M O S) = W0 at *
  have hor : (K : Int) * (z : Int) < 2 ∨ ¬ (K : Int) * (z : Int) < 2 := by omega
  rcases hor with hlt2 | hlt2
  · go_upto_region 4 with fail
    have hsp2 := heap_setCell_same _ w1.heap.size 0 _ _ (.int .i64 2) hsp
    have hbB : Below w.heap.size w (W0.setCell ⟨w1.heap.size, 0, none⟩ (.int .i64 2)) := hbA.setCell hb1.size _
    have hsp3 : (W0.setCell ⟨w1.heap.size, 0, none⟩ (.int .i64 2)).heap[w1.heap.size]? = some (specB 2 M O S) := hsp2
    have hs2 : SpecOk 2 M O S z := ⟨by omega, hM, hO, hS, hz⟩
    obtain ⟨k, hk⟩ : ∃ k : Nat, k = 2 := ⟨_, rfl⟩
    have hKz : 2 ≤ k * z := by rw [hk]; omega
    rw [← hk] at hsp3 hs2
    generalize W0.setCell ⟨w1.heap.size, 0, none⟩ (.int .i64 2) = W at *
    clear hk hsp hbA x0 x1 x2 x3 f0 c1 c2 hb320 hpos Hc0 hlt2 hsp2 Hs hK
    obtain ⟨x0, x1, x2, x3⟩ := spec_cells hsp3
    have hK := hs2.hK
    go_wp2_with fail
    refine (kobject_any k M O S z text _ hs2.hK.2 hs2.hz.2 hKz).mono ?_
    rintro e w2 ⟨o, rfl, ho, hb2⟩
    have hsp4 := block_on hsp3 hb2
    have hbw2 := hbB.trans (hb2.mono hbB.size)
    clear x0 x1 x2 x3 hsp3 hbB hb2
    obtain ⟨x0, x1, x2, x3⟩ := spec_cells hsp4
    go_wp2_with fail
    refine (send_ok k M O S z o _ hK hM hO hS hz ho).mono ?_
    rintro e w3 ⟨lv, rfl, hown, hb3⟩
    have hsp5 := block_on hsp4 hb3
    have hbw3 := hbw2.trans (hb3.mono hbw2.size)
    have hwd := objWord_is (K := k) (M := M) (O := O) (S := S) (z := z) o ho
    have hnew := CarOk.new k M O S z (objWord k M O S z o)
    have hobj := fun s h => CarOk.obj (K := k) (M := M) (O := O) (S := S) (z := z) (o := o) (s := s) h hs2 ho
    have hwh := fun s h => CarOk.whole (K := k) (M := M) (O := O) (S := S) (z := z) (o := o) (s := s) h hs2 ho
    generalize objWord k M O S z o = P at *
    have hLg := fun i hi => packTo_getD k M O S z P (k + M) i hi
    have hLl := packTo_length k M O S z P (k + M)
    have htx := owns_texts hown hLl.symm
    generalize packTo k M O S z P (k + M) = L at *
    obtain ⟨lo, lcap, rfl, hlc, hT⟩ := htx
    have Hwd := hide hwd
    have Hnew := hide hnew
    have Hobj := hide hobj
    have Hwh := hide hwh
    have HLg := hide hLg
    have HT := hide hT
    clear hwd hnew hobj hwh hLg hT hown x0 x1 x2 x3 hsp4 hbw2 hb3 ho
    obtain ⟨x0, x1, x2, x3⟩ := spec_cells hsp5
    go_wp2_with fail
    refine (listen_any _).mono ?_
    rintro e w4 ⟨p, rfl, hcn, hp, hb4⟩
    have hsp6 := block_on hsp5 hb4
    have hbw4 := hbw3.trans (hb4.mono hbw3.size)
    have hpl := CatOff.lt hcn
    have hw3s := hb4.size
    have hw0 := hbw3.size
    have hpc0 : ProgCat w4 p 0 89 69 (fun _ => undef) CS.zero := by rw [ProgCat.zero]; exact hcn
    have hsz1 : w1.heap.size < w3.heap.size := (Array.getElem?_eq_some_iff.1 hsp5).1
    have ha4 := ha.on (Nat.le_refl _) hbw4
    have hT4 : ∀ i, i < L.length → ∃ q o, lo = some ⟨q, o, none⟩ ∧ q < w4.heap.size ∧ q ≠ p ∧ w4.cell? ⟨q, o + i, none⟩ = some (.string (L.getD i ByteArray.empty)) := fun i hi => by
      obtain ⟨q, o', e1, e2, e3⟩ := HT.out i hi
      exact ⟨q, o', e1, by omega, by omega, (hb4.cell (p := ⟨q, o' + i, none⟩) e2).trans e3⟩
    have HT4 := hide hT4
    obtain ⟨ao, acap, rfl, hac, hA⟩ := ha
    have hA4 : ∀ i, i < at_.length → ∃ q o, ao = some ⟨q, o, none⟩ ∧ q < w4.heap.size ∧ q ≠ p ∧ w4.cell? ⟨q, o + i, none⟩ = some (.int .i64 (at_.getD i 0)) ∧ -9223372036854775808 ≤ at_.getD i 0 ∧ at_.getD i 0 ≤ 9223372036854775807 := fun i hi => by
      obtain ⟨q, o', e1, e2, e3, e4, e5⟩ := hA i hi
      exact ⟨q, o', e1, by omega, by omega, (hbw4.cell (p := ⟨q, o' + i, none⟩) e2).trans e3, e4, e5⟩
    have HA4 := hide hA4
    clear hT4 HT hA4 hA hcn x0 x1 x2 x3 hsp5 hbw3 hb4 ha4
    obtain ⟨x0, x1, x2, x3⟩ := spec_cells hsp6
    go_wp2_with fail
    go_loopw [64] (fun kv wr => ∃ (n : Nat) (s : CS), n ≤ at_.length ∧ kv = .int .i64 (n : Int) ∧ ProgCat wr p 0 89 69 (fun _ => undef) s ∧ CarOk k M O S z P s ∧ (n = 0 → s = CS.zero) ∧ Chg (fun q => q = p) w4 wr) (fun kv _ => at_.length - (intOf kv).toNat)
    case atStart => exact ⟨0, CS.zero, Nat.zero_le _, rfl, hpc0, Hnew.out, fun _ => rfl, Chg.refl _ _⟩
    case round =>
      clear hpc0 x0 x1 x2 x3
      obtain ⟨n, s, hn, rfl, hpc, hcar, hzero, hcg⟩ := hrel
      have Hzero := hide hzero
      clear hzero
      by_cases hlt : n < at_.length
      · obtain ⟨q, o1, rfl, hq, hqp, hc, b1, b2⟩ := HA4.out n hlt
        have hc2 := (hcg.cell (a := ⟨q, o1 + n, none⟩) hq hqp).trans hc
        have hpl2 := placeOf_lt (k + M) (at_.getD n 0) (by omega)
        have hpp := pick_place (at_.getD n 0) (k + M) (by omega)
        rw [Int.natCast_add] at hpp
        clear hc
        generalize at_.getD n 0 = cc at *
        generalize placeOf (k + M) cc = pl at *
        obtain ⟨q2, o2, rfl, hq2, hq2p, ht2⟩ := HT4.out pl (by omega)
        have ht3 := (hcg.cell (a := ⟨q2, o2 + pl, none⟩) hq2 hq2p).trans ht2
        rw [HLg.out pl hpl2] at ht3
        obtain ⟨u1, u2, u3, u4, u5⟩ := hcar.hear hs2 Hwd.out hpl2
        have hpk := packB_is (i := pl) (q := P.getD pl ByteArray.empty) hs2 hpl2 (Hwd.out.at_size hpl2)
        have hpsz : 0 < (packB k M O S z pl (P.getD pl ByteArray.empty)).size ∧ (packB k M O S z pl (P.getD pl ByteArray.empty)).size ≤ 1000 := by have := hpk.ok; obtain ⟨y1, y2, _⟩ := this; omega
        have hh1 := fun W h => hear_by p (packB k M O S z pl (P.getD pl ByteArray.empty)) _ _ W (ohear_any p 0 89 69 (fun _ => undef) s (packB k M O S z pl (P.getD pl ByteArray.empty)) W h hcar.ok)
        have hok := hpk.ok
        generalize packB k M O S z pl (P.getD pl ByteArray.empty) = t at *
        rw [u1] at hh1
        generalize hearS s t = s2 at *
        have hh2 := fun x W h => hear_by p x _ _ W (ohear_any p 0 89 69 (fun _ => undef) s2 x W h u2.ok)
        have i1 : (0 : Int) ≤ (n : Int) := by omega
        have i2 : (n : Int) < (at_.length : Int) := by omega
        have i3 : (0 : Int) ≤ (pl : Int) := by omega
        have i4 : (pl : Int) < (k : Int) + (M : Int) := by omega
        clear ht2 u1 u3 u4 u5 hpk
        go_wp2_with fail
        refine (pick_any cc _ _ b1 b2 (by omega)).mono ?_
        rintro e W1 ⟨rfl, rfl⟩
        rw [hpp]
        clear hpp
        go_wp2_with fail
        refine (hh1 _ hpc).mono ?_
        rintro e w5 ⟨rfl, hpc5, hcg5⟩
        have hcg6 := hcg.trans hcg5 (fun _ _ h => h)
        have hwrs := hcg.size
        have ht5 := (hcg5.cell (a := ⟨q2, o2 + pl, none⟩) (Nat.lt_of_lt_of_le hq2 hwrs) hq2p).trans ht3
        clear hh1 hpc hcg hcg5 ht3 hc2
        go_wp2_with fail
        refine (flipped_byte t bit _ g1 g2 hpsz.1 hpsz.2).mono ?_
        rintro e w6 ⟨m, x, rfl, hm, hx, hb6⟩
        have hpc6 : ProgCat w6 p 0 89 69 (fun _ => undef) s2 := CatOff.on hpc5 (Nat.le_refl _) hb6
        obtain ⟨v1, v2⟩ := hearE_no (s := s2) (spoilt hok hm hx)
        have hh3 := hh2 (setByte t m x) w6 hpc6
        rw [v1, v2] at hh3
        have hcg7 := hcg6.trans (Chg.of_below hb6 (fun _ => False)) (fun _ _ h => h.elim)
        clear hh2 hpc5 hcg6 hb6 ht5 hm hx v1 v2
        generalize setByte t m x = t2 at *
        go_wp2_with fail
        refine hh3.mono ?_
        rintro e w7 ⟨rfl, hpc7, hcg8⟩
        have hcg9 := hcg7.trans hcg8 (fun _ _ h => h)
        clear hh3 hcg7 hcg8 hpc6
        go_wp2_with fail
        go_roundw
        case rel => exact ⟨n + 1, s2, by omega, by go_num, hpc7, u2, fun h => absurd h (by omega), hcg9⟩
        case measure => simp [intOf]; omega
      · have hnn : n = at_.length := by omega
        have hob1 := fun W h => object_by p _ _ _ W (oobj_any p 0 89 69 (fun _ => undef) s W h hcar.ok)
        have hcase := Hobj.out s hcar
        have hsp7 : wr.heap[w1.heap.size]? = some (specB k M O S) := (hcg.block _ (by omega) (by omega)).trans hsp6
        have hwrs := hcg.size
        have hbwr : Below w.heap.size w wr := below_chg hbw4 hcg (fun q e => by rw [e]; omega)
        rcases hcase with ⟨q1, _, q3⟩ | ⟨_, q3⟩
        · have hlen0 : ((at_.length : Int) == 0) = false := beq_eq_false_iff_ne.2 (fun e => by
            have := Hzero.out (by omega)
            rw [this] at q1
            cases q1)
          have hse : (o.toList == o.toList) = true := by simp
          rw [q3] at hob1
          dsimp only at hob1
          clear q1 q3
          go_wp2_with fail
          refine (hob1 _ hpc).mono ?_
          rintro e w5 ⟨rfl, hb5⟩
          have hpc5 : ProgCat w5 p 0 89 69 (fun _ => undef) s := CatOff.on hpc (Nat.le_refl _) hb5
          have hcg5 := hcg.trans (Chg.of_below hb5 (fun _ => False)) (fun _ _ h => h.elim)
          have hsp8 := block_on hsp7 hb5
          clear hob1 hpc hcg hsp7 hbwr hwrs hb5 Hzero hnn hlt
          obtain ⟨x0, x1, x2, x3⟩ := spec_cells hsp8
          clear x1 x2 x3
          go_wp2_with fail
          clear x0 hsp8 hlen0
          go_loopw [126] (fun iv wr => ∃ (i : Nat) (s : CS), i ≤ k ∧ iv = .int .i64 (i : Int) ∧ ProgCat wr p 0 89 69 (fun _ => undef) s ∧ CarOk k M O S z P s ∧ (∀ j, j < i → toldIn k M O S s j) ∧ (0 < i → s.tk = true) ∧ Chg (fun q => q = p) w4 wr) (fun iv _ => k - (intOf iv).toNat)
          case atStart => exact ⟨0, s, Nat.zero_le _, rfl, hpc5, hcar, fun j hj => absurd hj (Nat.not_lt_zero _), fun h => absurd h (Nat.lt_irrefl _), hcg5⟩
          case round =>
            clear hpc5 hcg5 hcar
            obtain ⟨i, s, hik, rfl, hpc, hcar, htold, htk, hcg⟩ := hrel
            have Htold := hide htold
            have Htk := hide htk
            clear htold htk
            have hse : (o.toList == o.toList) = true := by simp
            by_cases hlt : i < k
            · obtain ⟨q2, o2, rfl, hq2, hq2p, ht2⟩ := HT4.out i (by omega)
              have ht3 := (hcg.cell (a := ⟨q2, o2 + i, none⟩) hq2 hq2p).trans ht2
              rw [HLg.out i (by omega)] at ht3
              obtain ⟨u1, u2, u3, u4, u5⟩ := hcar.hear hs2 Hwd.out (i := i) (by omega)
              have hh1 := fun W h => hear_by p (packB k M O S z i (P.getD i ByteArray.empty)) _ _ W (ohear_any p 0 89 69 (fun _ => undef) s (packB k M O S z i (P.getD i ByteArray.empty)) W h hcar.ok)
              generalize packB k M O S z i (P.getD i ByteArray.empty) = t at *
              rw [u1] at hh1
              generalize hearS s t = s2 at *
              have i3 : (0 : Int) ≤ (i : Int) := by omega
              have i4 : (i : Int) < (k : Int) + (M : Int) := by omega
              have i5 : (i : Int) < (k : Int) := by omega
              have U := hide (And.intro u2 (And.intro u3 (And.intro u4 u5)))
              clear ht2 u1 u2 u3 u4 u5
              go_wp2_with fail
              refine (hh1 _ hpc).mono ?_
              rintro e w6 ⟨rfl, hpc6, hcg6⟩
              have hcg7 := hcg.trans hcg6 (fun _ _ h => h)
              clear hh1 hpc hcg hcg6 ht3
              go_wp2_with fail
              go_roundw
              case rel =>
                refine ⟨i + 1, s2, by omega, by go_num, hpc6, U.out.1, fun j hj => ?_, fun _ => U.out.2.1, hcg7⟩
                by_cases e : j = i
                · subst e; exact U.out.2.2.1
                · exact U.out.2.2.2 j (Htold.out j (by omega))
              case measure => simp [intOf]; omega
            · have hii : i = k := by omega
              have i5 : ¬ (i : Int) < (k : Int) := by omega
              obtain ⟨u1, u2⟩ := Hwh.out s hcar (Htk.out (by omega)) (fun j hj => Htold.out j (by omega))
              have hob1 := fun W h => object_by p _ _ _ W (oobj_any p 0 89 69 (fun _ => undef) s W h hcar.ok)
              have hwa1 := fun W h => wants_by p _ _ W (owants_any p 0 89 69 (fun _ => undef) s W h hcar.ok)
              rw [u1] at hob1
              rw [u2] at hwa1
              dsimp only at hob1
              have hbwr : Below w.heap.size w wr := below_chg hbw4 hcg (fun q e => by rw [e]; omega)
              clear u1 u2 hii hcg
              go_wp2_with fail
              refine (hob1 _ hpc).mono ?_
              rintro e w6 ⟨rfl, hb6⟩
              have hpc6 : ProgCat w6 p 0 89 69 (fun _ => undef) s := CatOff.on hpc (Nat.le_refl _) hb6
              have hbf := hbwr.trans (hb6.mono hbwr.size)
              clear hob1 hpc hb6 hbwr
              go_wp2_with fail
              refine (hwa1 _ hpc6).mono ?_
              rintro e w7 ⟨rfl, e7⟩
              obtain rfl := e7.symm
              clear hwa1 hpc6
              go_wp2_with fail
              go_ret
              exact ⟨by first | rfl | simp, hbf⟩
        · rw [q3] at hob1
          dsimp only at hob1
          clear q3
          go_wp2_with fail
          refine (hob1 _ hpc).mono ?_
          rintro e w5 ⟨rfl, hb5⟩
          have hpc5 : ProgCat w5 p 0 89 69 (fun _ => undef) s := CatOff.on hpc (Nat.le_refl _) hb5
          have hcg5 := hcg.trans (Chg.of_below hb5 (fun _ => False)) (fun _ _ h => h.elim)
          have hsp8 := block_on hsp7 hb5
          clear hob1 hpc hcg hsp7 hbwr hwrs hb5 Hzero hnn hlt
          obtain ⟨x0, x1, x2, x3⟩ := spec_cells hsp8
          clear x1 x2 x3
          go_wp2_with fail
          clear x0 hsp8
          go_loopw [126] (fun iv wr => ∃ (i : Nat) (s : CS), i ≤ k ∧ iv = .int .i64 (i : Int) ∧ ProgCat wr p 0 89 69 (fun _ => undef) s ∧ CarOk k M O S z P s ∧ (∀ j, j < i → toldIn k M O S s j) ∧ (0 < i → s.tk = true) ∧ Chg (fun q => q = p) w4 wr) (fun iv _ => k - (intOf iv).toNat)
          case atStart => exact ⟨0, s, Nat.zero_le _, rfl, hpc5, hcar, fun j hj => absurd hj (Nat.not_lt_zero _), fun h => absurd h (Nat.lt_irrefl _), hcg5⟩
          case round =>
            clear hpc5 hcg5 hcar
            obtain ⟨i, s, hik, rfl, hpc, hcar, htold, htk, hcg⟩ := hrel
            have Htold := hide htold
            have Htk := hide htk
            clear htold htk
            have hse : (o.toList == o.toList) = true := by simp
            by_cases hlt : i < k
            · obtain ⟨q2, o2, rfl, hq2, hq2p, ht2⟩ := HT4.out i (by omega)
              have ht3 := (hcg.cell (a := ⟨q2, o2 + i, none⟩) hq2 hq2p).trans ht2
              rw [HLg.out i (by omega)] at ht3
              obtain ⟨u1, u2, u3, u4, u5⟩ := hcar.hear hs2 Hwd.out (i := i) (by omega)
              have hh1 := fun W h => hear_by p (packB k M O S z i (P.getD i ByteArray.empty)) _ _ W (ohear_any p 0 89 69 (fun _ => undef) s (packB k M O S z i (P.getD i ByteArray.empty)) W h hcar.ok)
              generalize packB k M O S z i (P.getD i ByteArray.empty) = t at *
              rw [u1] at hh1
              generalize hearS s t = s2 at *
              have i3 : (0 : Int) ≤ (i : Int) := by omega
              have i4 : (i : Int) < (k : Int) + (M : Int) := by omega
              have i5 : (i : Int) < (k : Int) := by omega
              have U := hide (And.intro u2 (And.intro u3 (And.intro u4 u5)))
              clear ht2 u1 u2 u3 u4 u5
              go_wp2_with fail
              refine (hh1 _ hpc).mono ?_
              rintro e w6 ⟨rfl, hpc6, hcg6⟩
              have hcg7 := hcg.trans hcg6 (fun _ _ h => h)
              clear hh1 hpc hcg hcg6 ht3
              go_wp2_with fail
              go_roundw
              case rel =>
                refine ⟨i + 1, s2, by omega, by go_num, hpc6, U.out.1, fun j hj => ?_, fun _ => U.out.2.1, hcg7⟩
                by_cases e : j = i
                · subst e; exact U.out.2.2.1
                · exact U.out.2.2.2 j (Htold.out j (by omega))
              case measure => simp [intOf]; omega
            · have hii : i = k := by omega
              have i5 : ¬ (i : Int) < (k : Int) := by omega
              obtain ⟨u1, u2⟩ := Hwh.out s hcar (Htk.out (by omega)) (fun j hj => Htold.out j (by omega))
              have hob1 := fun W h => object_by p _ _ _ W (oobj_any p 0 89 69 (fun _ => undef) s W h hcar.ok)
              have hwa1 := fun W h => wants_by p _ _ W (owants_any p 0 89 69 (fun _ => undef) s W h hcar.ok)
              rw [u1] at hob1
              rw [u2] at hwa1
              dsimp only at hob1
              have hbwr : Below w.heap.size w wr := below_chg hbw4 hcg (fun q e => by rw [e]; omega)
              clear u1 u2 hii hcg
              go_wp2_with fail
              refine (hob1 _ hpc).mono ?_
              rintro e w6 ⟨rfl, hb6⟩
              have hpc6 : ProgCat w6 p 0 89 69 (fun _ => undef) s := CatOff.on hpc (Nat.le_refl _) hb6
              have hbf := hbwr.trans (hb6.mono hbwr.size)
              clear hob1 hpc hb6 hbwr
              go_wp2_with fail
              refine (hwa1 _ hpc6).mono ?_
              rintro e w7 ⟨rfl, e7⟩
              obtain rfl := e7.symm
              clear hwa1 hpc6
              go_wp2_with fail
              go_ret
              exact ⟨by first | rfl | simp, hbf⟩
  · go_upto_region 4 with fail
    have hsp3 := hsp
    have hs2 := Hs.out
    have hKz : 2 ≤ K * z := by have := Hc0.out; omega
    have hbB := hbA
    obtain ⟨k, hk⟩ : ∃ k : Nat, k = K := ⟨_, rfl⟩
    rw [← hk] at hsp3 hs2 hKz
    generalize W0 = W at *
    clear hk hsp hbA x0 x1 x2 x3 f0 c1 c2 hb320 hpos Hc0 hlt2 Hs hK
    obtain ⟨x0, x1, x2, x3⟩ := spec_cells hsp3
    have hK := hs2.hK
    go_wp2_with fail
    refine (kobject_any k M O S z text _ hs2.hK.2 hs2.hz.2 hKz).mono ?_
    rintro e w2 ⟨o, rfl, ho, hb2⟩
    have hsp4 := block_on hsp3 hb2
    have hbw2 := hbB.trans (hb2.mono hbB.size)
    clear x0 x1 x2 x3 hsp3 hbB hb2
    obtain ⟨x0, x1, x2, x3⟩ := spec_cells hsp4
    go_wp2_with fail
    refine (send_ok k M O S z o _ hK hM hO hS hz ho).mono ?_
    rintro e w3 ⟨lv, rfl, hown, hb3⟩
    have hsp5 := block_on hsp4 hb3
    have hbw3 := hbw2.trans (hb3.mono hbw2.size)
    have hwd := objWord_is (K := k) (M := M) (O := O) (S := S) (z := z) o ho
    have hnew := CarOk.new k M O S z (objWord k M O S z o)
    have hobj := fun s h => CarOk.obj (K := k) (M := M) (O := O) (S := S) (z := z) (o := o) (s := s) h hs2 ho
    have hwh := fun s h => CarOk.whole (K := k) (M := M) (O := O) (S := S) (z := z) (o := o) (s := s) h hs2 ho
    generalize objWord k M O S z o = P at *
    have hLg := fun i hi => packTo_getD k M O S z P (k + M) i hi
    have hLl := packTo_length k M O S z P (k + M)
    have htx := owns_texts hown hLl.symm
    generalize packTo k M O S z P (k + M) = L at *
    obtain ⟨lo, lcap, rfl, hlc, hT⟩ := htx
    have Hwd := hide hwd
    have Hnew := hide hnew
    have Hobj := hide hobj
    have Hwh := hide hwh
    have HLg := hide hLg
    have HT := hide hT
    clear hwd hnew hobj hwh hLg hT hown x0 x1 x2 x3 hsp4 hbw2 hb3 ho
    obtain ⟨x0, x1, x2, x3⟩ := spec_cells hsp5
    go_wp2_with fail
    refine (listen_any _).mono ?_
    rintro e w4 ⟨p, rfl, hcn, hp, hb4⟩
    have hsp6 := block_on hsp5 hb4
    have hbw4 := hbw3.trans (hb4.mono hbw3.size)
    have hpl := CatOff.lt hcn
    have hw3s := hb4.size
    have hw0 := hbw3.size
    have hpc0 : ProgCat w4 p 0 89 69 (fun _ => undef) CS.zero := by rw [ProgCat.zero]; exact hcn
    have hsz1 : w1.heap.size < w3.heap.size := (Array.getElem?_eq_some_iff.1 hsp5).1
    have ha4 := ha.on (Nat.le_refl _) hbw4
    have hT4 : ∀ i, i < L.length → ∃ q o, lo = some ⟨q, o, none⟩ ∧ q < w4.heap.size ∧ q ≠ p ∧ w4.cell? ⟨q, o + i, none⟩ = some (.string (L.getD i ByteArray.empty)) := fun i hi => by
      obtain ⟨q, o', e1, e2, e3⟩ := HT.out i hi
      exact ⟨q, o', e1, by omega, by omega, (hb4.cell (p := ⟨q, o' + i, none⟩) e2).trans e3⟩
    have HT4 := hide hT4
    obtain ⟨ao, acap, rfl, hac, hA⟩ := ha
    have hA4 : ∀ i, i < at_.length → ∃ q o, ao = some ⟨q, o, none⟩ ∧ q < w4.heap.size ∧ q ≠ p ∧ w4.cell? ⟨q, o + i, none⟩ = some (.int .i64 (at_.getD i 0)) ∧ -9223372036854775808 ≤ at_.getD i 0 ∧ at_.getD i 0 ≤ 9223372036854775807 := fun i hi => by
      obtain ⟨q, o', e1, e2, e3, e4, e5⟩ := hA i hi
      exact ⟨q, o', e1, by omega, by omega, (hbw4.cell (p := ⟨q, o' + i, none⟩) e2).trans e3, e4, e5⟩
    have HA4 := hide hA4
    clear hT4 HT hA4 hA hcn x0 x1 x2 x3 hsp5 hbw3 hb4 ha4
    obtain ⟨x0, x1, x2, x3⟩ := spec_cells hsp6
    go_wp2_with fail
    go_loopw [64] (fun kv wr => ∃ (n : Nat) (s : CS), n ≤ at_.length ∧ kv = .int .i64 (n : Int) ∧ ProgCat wr p 0 89 69 (fun _ => undef) s ∧ CarOk k M O S z P s ∧ (n = 0 → s = CS.zero) ∧ Chg (fun q => q = p) w4 wr) (fun kv _ => at_.length - (intOf kv).toNat)
    case atStart => exact ⟨0, CS.zero, Nat.zero_le _, rfl, hpc0, Hnew.out, fun _ => rfl, Chg.refl _ _⟩
    case round =>
      clear hpc0 x0 x1 x2 x3
      obtain ⟨n, s, hn, rfl, hpc, hcar, hzero, hcg⟩ := hrel
      have Hzero := hide hzero
      clear hzero
      by_cases hlt : n < at_.length
      · obtain ⟨q, o1, rfl, hq, hqp, hc, b1, b2⟩ := HA4.out n hlt
        have hc2 := (hcg.cell (a := ⟨q, o1 + n, none⟩) hq hqp).trans hc
        have hpl2 := placeOf_lt (k + M) (at_.getD n 0) (by omega)
        have hpp := pick_place (at_.getD n 0) (k + M) (by omega)
        rw [Int.natCast_add] at hpp
        clear hc
        generalize at_.getD n 0 = cc at *
        generalize placeOf (k + M) cc = pl at *
        obtain ⟨q2, o2, rfl, hq2, hq2p, ht2⟩ := HT4.out pl (by omega)
        have ht3 := (hcg.cell (a := ⟨q2, o2 + pl, none⟩) hq2 hq2p).trans ht2
        rw [HLg.out pl hpl2] at ht3
        obtain ⟨u1, u2, u3, u4, u5⟩ := hcar.hear hs2 Hwd.out hpl2
        have hpk := packB_is (i := pl) (q := P.getD pl ByteArray.empty) hs2 hpl2 (Hwd.out.at_size hpl2)
        have hpsz : 0 < (packB k M O S z pl (P.getD pl ByteArray.empty)).size ∧ (packB k M O S z pl (P.getD pl ByteArray.empty)).size ≤ 1000 := by have := hpk.ok; obtain ⟨y1, y2, _⟩ := this; omega
        have hh1 := fun W h => hear_by p (packB k M O S z pl (P.getD pl ByteArray.empty)) _ _ W (ohear_any p 0 89 69 (fun _ => undef) s (packB k M O S z pl (P.getD pl ByteArray.empty)) W h hcar.ok)
        have hok := hpk.ok
        generalize packB k M O S z pl (P.getD pl ByteArray.empty) = t at *
        rw [u1] at hh1
        generalize hearS s t = s2 at *
        have hh2 := fun x W h => hear_by p x _ _ W (ohear_any p 0 89 69 (fun _ => undef) s2 x W h u2.ok)
        have i1 : (0 : Int) ≤ (n : Int) := by omega
        have i2 : (n : Int) < (at_.length : Int) := by omega
        have i3 : (0 : Int) ≤ (pl : Int) := by omega
        have i4 : (pl : Int) < (k : Int) + (M : Int) := by omega
        clear ht2 u1 u3 u4 u5 hpk
        go_wp2_with fail
        refine (pick_any cc _ _ b1 b2 (by omega)).mono ?_
        rintro e W1 ⟨rfl, rfl⟩
        rw [hpp]
        clear hpp
        go_wp2_with fail
        refine (hh1 _ hpc).mono ?_
        rintro e w5 ⟨rfl, hpc5, hcg5⟩
        have hcg6 := hcg.trans hcg5 (fun _ _ h => h)
        have hwrs := hcg.size
        have ht5 := (hcg5.cell (a := ⟨q2, o2 + pl, none⟩) (Nat.lt_of_lt_of_le hq2 hwrs) hq2p).trans ht3
        clear hh1 hpc hcg hcg5 ht3 hc2
        go_wp2_with fail
        refine (flipped_byte t bit _ g1 g2 hpsz.1 hpsz.2).mono ?_
        rintro e w6 ⟨m, x, rfl, hm, hx, hb6⟩
        have hpc6 : ProgCat w6 p 0 89 69 (fun _ => undef) s2 := CatOff.on hpc5 (Nat.le_refl _) hb6
        obtain ⟨v1, v2⟩ := hearE_no (s := s2) (spoilt hok hm hx)
        have hh3 := hh2 (setByte t m x) w6 hpc6
        rw [v1, v2] at hh3
        have hcg7 := hcg6.trans (Chg.of_below hb6 (fun _ => False)) (fun _ _ h => h.elim)
        clear hh2 hpc5 hcg6 hb6 ht5 hm hx v1 v2
        generalize setByte t m x = t2 at *
        go_wp2_with fail
        refine hh3.mono ?_
        rintro e w7 ⟨rfl, hpc7, hcg8⟩
        have hcg9 := hcg7.trans hcg8 (fun _ _ h => h)
        clear hh3 hcg7 hcg8 hpc6
        go_wp2_with fail
        go_roundw
        case rel => exact ⟨n + 1, s2, by omega, by go_num, hpc7, u2, fun h => absurd h (by omega), hcg9⟩
        case measure => simp [intOf]; omega
      · have hnn : n = at_.length := by omega
        have hob1 := fun W h => object_by p _ _ _ W (oobj_any p 0 89 69 (fun _ => undef) s W h hcar.ok)
        have hcase := Hobj.out s hcar
        have hsp7 : wr.heap[w1.heap.size]? = some (specB k M O S) := (hcg.block _ (by omega) (by omega)).trans hsp6
        have hwrs := hcg.size
        have hbwr : Below w.heap.size w wr := below_chg hbw4 hcg (fun q e => by rw [e]; omega)
        rcases hcase with ⟨q1, _, q3⟩ | ⟨_, q3⟩
        · have hlen0 : ((at_.length : Int) == 0) = false := beq_eq_false_iff_ne.2 (fun e => by
            have := Hzero.out (by omega)
            rw [this] at q1
            cases q1)
          have hse : (o.toList == o.toList) = true := by simp
          rw [q3] at hob1
          dsimp only at hob1
          clear q1 q3
          go_wp2_with fail
          refine (hob1 _ hpc).mono ?_
          rintro e w5 ⟨rfl, hb5⟩
          have hpc5 : ProgCat w5 p 0 89 69 (fun _ => undef) s := CatOff.on hpc (Nat.le_refl _) hb5
          have hcg5 := hcg.trans (Chg.of_below hb5 (fun _ => False)) (fun _ _ h => h.elim)
          have hsp8 := block_on hsp7 hb5
          clear hob1 hpc hcg hsp7 hbwr hwrs hb5 Hzero hnn hlt
          obtain ⟨x0, x1, x2, x3⟩ := spec_cells hsp8
          clear x1 x2 x3
          go_wp2_with fail
          clear x0 hsp8 hlen0
          go_loopw [126] (fun iv wr => ∃ (i : Nat) (s : CS), i ≤ k ∧ iv = .int .i64 (i : Int) ∧ ProgCat wr p 0 89 69 (fun _ => undef) s ∧ CarOk k M O S z P s ∧ (∀ j, j < i → toldIn k M O S s j) ∧ (0 < i → s.tk = true) ∧ Chg (fun q => q = p) w4 wr) (fun iv _ => k - (intOf iv).toNat)
          case atStart => exact ⟨0, s, Nat.zero_le _, rfl, hpc5, hcar, fun j hj => absurd hj (Nat.not_lt_zero _), fun h => absurd h (Nat.lt_irrefl _), hcg5⟩
          case round =>
            clear hpc5 hcg5 hcar
            obtain ⟨i, s, hik, rfl, hpc, hcar, htold, htk, hcg⟩ := hrel
            have Htold := hide htold
            have Htk := hide htk
            clear htold htk
            have hse : (o.toList == o.toList) = true := by simp
            by_cases hlt : i < k
            · obtain ⟨q2, o2, rfl, hq2, hq2p, ht2⟩ := HT4.out i (by omega)
              have ht3 := (hcg.cell (a := ⟨q2, o2 + i, none⟩) hq2 hq2p).trans ht2
              rw [HLg.out i (by omega)] at ht3
              obtain ⟨u1, u2, u3, u4, u5⟩ := hcar.hear hs2 Hwd.out (i := i) (by omega)
              have hh1 := fun W h => hear_by p (packB k M O S z i (P.getD i ByteArray.empty)) _ _ W (ohear_any p 0 89 69 (fun _ => undef) s (packB k M O S z i (P.getD i ByteArray.empty)) W h hcar.ok)
              generalize packB k M O S z i (P.getD i ByteArray.empty) = t at *
              rw [u1] at hh1
              generalize hearS s t = s2 at *
              have i3 : (0 : Int) ≤ (i : Int) := by omega
              have i4 : (i : Int) < (k : Int) + (M : Int) := by omega
              have i5 : (i : Int) < (k : Int) := by omega
              have U := hide (And.intro u2 (And.intro u3 (And.intro u4 u5)))
              clear ht2 u1 u2 u3 u4 u5
              go_wp2_with fail
              refine (hh1 _ hpc).mono ?_
              rintro e w6 ⟨rfl, hpc6, hcg6⟩
              have hcg7 := hcg.trans hcg6 (fun _ _ h => h)
              clear hh1 hpc hcg hcg6 ht3
              go_wp2_with fail
              go_roundw
              case rel =>
                refine ⟨i + 1, s2, by omega, by go_num, hpc6, U.out.1, fun j hj => ?_, fun _ => U.out.2.1, hcg7⟩
                by_cases e : j = i
                · subst e; exact U.out.2.2.1
                · exact U.out.2.2.2 j (Htold.out j (by omega))
              case measure => simp [intOf]; omega
            · have hii : i = k := by omega
              have i5 : ¬ (i : Int) < (k : Int) := by omega
              obtain ⟨u1, u2⟩ := Hwh.out s hcar (Htk.out (by omega)) (fun j hj => Htold.out j (by omega))
              have hob1 := fun W h => object_by p _ _ _ W (oobj_any p 0 89 69 (fun _ => undef) s W h hcar.ok)
              have hwa1 := fun W h => wants_by p _ _ W (owants_any p 0 89 69 (fun _ => undef) s W h hcar.ok)
              rw [u1] at hob1
              rw [u2] at hwa1
              dsimp only at hob1
              have hbwr : Below w.heap.size w wr := below_chg hbw4 hcg (fun q e => by rw [e]; omega)
              clear u1 u2 hii hcg
              go_wp2_with fail
              refine (hob1 _ hpc).mono ?_
              rintro e w6 ⟨rfl, hb6⟩
              have hpc6 : ProgCat w6 p 0 89 69 (fun _ => undef) s := CatOff.on hpc (Nat.le_refl _) hb6
              have hbf := hbwr.trans (hb6.mono hbwr.size)
              clear hob1 hpc hb6 hbwr
              go_wp2_with fail
              refine (hwa1 _ hpc6).mono ?_
              rintro e w7 ⟨rfl, e7⟩
              obtain rfl := e7.symm
              clear hwa1 hpc6
              go_wp2_with fail
              go_ret
              exact ⟨by first | rfl | simp, hbf⟩
        · rw [q3] at hob1
          dsimp only at hob1
          clear q3
          go_wp2_with fail
          refine (hob1 _ hpc).mono ?_
          rintro e w5 ⟨rfl, hb5⟩
          have hpc5 : ProgCat w5 p 0 89 69 (fun _ => undef) s := CatOff.on hpc (Nat.le_refl _) hb5
          have hcg5 := hcg.trans (Chg.of_below hb5 (fun _ => False)) (fun _ _ h => h.elim)
          have hsp8 := block_on hsp7 hb5
          clear hob1 hpc hcg hsp7 hbwr hwrs hb5 Hzero hnn hlt
          obtain ⟨x0, x1, x2, x3⟩ := spec_cells hsp8
          clear x1 x2 x3
          go_wp2_with fail
          clear x0 hsp8
          go_loopw [126] (fun iv wr => ∃ (i : Nat) (s : CS), i ≤ k ∧ iv = .int .i64 (i : Int) ∧ ProgCat wr p 0 89 69 (fun _ => undef) s ∧ CarOk k M O S z P s ∧ (∀ j, j < i → toldIn k M O S s j) ∧ (0 < i → s.tk = true) ∧ Chg (fun q => q = p) w4 wr) (fun iv _ => k - (intOf iv).toNat)
          case atStart => exact ⟨0, s, Nat.zero_le _, rfl, hpc5, hcar, fun j hj => absurd hj (Nat.not_lt_zero _), fun h => absurd h (Nat.lt_irrefl _), hcg5⟩
          case round =>
            clear hpc5 hcg5 hcar
            obtain ⟨i, s, hik, rfl, hpc, hcar, htold, htk, hcg⟩ := hrel
            have Htold := hide htold
            have Htk := hide htk
            clear htold htk
            have hse : (o.toList == o.toList) = true := by simp
            by_cases hlt : i < k
            · obtain ⟨q2, o2, rfl, hq2, hq2p, ht2⟩ := HT4.out i (by omega)
              have ht3 := (hcg.cell (a := ⟨q2, o2 + i, none⟩) hq2 hq2p).trans ht2
              rw [HLg.out i (by omega)] at ht3
              obtain ⟨u1, u2, u3, u4, u5⟩ := hcar.hear hs2 Hwd.out (i := i) (by omega)
              have hh1 := fun W h => hear_by p (packB k M O S z i (P.getD i ByteArray.empty)) _ _ W (ohear_any p 0 89 69 (fun _ => undef) s (packB k M O S z i (P.getD i ByteArray.empty)) W h hcar.ok)
              generalize packB k M O S z i (P.getD i ByteArray.empty) = t at *
              rw [u1] at hh1
              generalize hearS s t = s2 at *
              have i3 : (0 : Int) ≤ (i : Int) := by omega
              have i4 : (i : Int) < (k : Int) + (M : Int) := by omega
              have i5 : (i : Int) < (k : Int) := by omega
              have U := hide (And.intro u2 (And.intro u3 (And.intro u4 u5)))
              clear ht2 u1 u2 u3 u4 u5
              go_wp2_with fail
              refine (hh1 _ hpc).mono ?_
              rintro e w6 ⟨rfl, hpc6, hcg6⟩
              have hcg7 := hcg.trans hcg6 (fun _ _ h => h)
              clear hh1 hpc hcg hcg6 ht3
              go_wp2_with fail
              go_roundw
              case rel =>
                refine ⟨i + 1, s2, by omega, by go_num, hpc6, U.out.1, fun j hj => ?_, fun _ => U.out.2.1, hcg7⟩
                by_cases e : j = i
                · subst e; exact U.out.2.2.1
                · exact U.out.2.2.2 j (Htold.out j (by omega))
              case measure => simp [intOf]; omega
            · have hii : i = k := by omega
              have i5 : ¬ (i : Int) < (k : Int) := by omega
              obtain ⟨u1, u2⟩ := Hwh.out s hcar (Htk.out (by omega)) (fun j hj => Htold.out j (by omega))
              have hob1 := fun W h => object_by p _ _ _ W (oobj_any p 0 89 69 (fun _ => undef) s W h hcar.ok)
              have hwa1 := fun W h => wants_by p _ _ W (owants_any p 0 89 69 (fun _ => undef) s W h hcar.ok)
              rw [u1] at hob1
              rw [u2] at hwa1
              dsimp only at hob1
              have hbwr : Below w.heap.size w wr := below_chg hbw4 hcg (fun q e => by rw [e]; omega)
              clear u1 u2 hii hcg
              go_wp2_with fail
              refine (hob1 _ hpc).mono ?_
              rintro e w6 ⟨rfl, hb6⟩
              have hpc6 : ProgCat w6 p 0 89 69 (fun _ => undef) s := CatOff.on hpc (Nat.le_refl _) hb6
              have hbf := hbwr.trans (hb6.mono hbwr.size)
              clear hob1 hpc hb6 hbwr
              go_wp2_with fail
              refine (hwa1 _ hpc6).mono ?_
              rintro e w7 ⟨rfl, e7⟩
              obtain rfl := e7.symm
              clear hwa1 hpc6
              go_wp2_with fail
              go_ret
              exact ⟨by first | rfl | simp, hbf⟩

end Go.Proofs.Ytnjaofkieajnlab

/- For every specification, whatever its four numbers, the law Rowed answers true: the program's Rows gives what the document asks, or its error; no condition. -/
namespace Go.Proofs.Ytnjaofkieajnlab
open Go.ChangeShapes Go.WideShapes Go.ChangeAt Go.RowKit Go.Joins

theorem Try.own : ownKnob Try.prog.godebug = none := by kernel_rfl
theorem Try.laidOut : laidOutB Try.prog = true := by kernel_rfl
theorem Try.cellsSpec : Try.prog.cellsOf 24 = 4 := by kernel_rfl

end Go.Proofs.Ytnjaofkieajnlab

/- A slice of ints that came in, opened. -/
namespace Go.Proofs.Ytnjaofkieajnlab
open Go.ChangeShapes Go.WideShapes Go.ChangeAt Go.RowKit Go.Joins

theorem Try.cellsInt : Try.prog.cellsOf 3 = 1 := by kernel_rfl

set_option maxRecDepth 100000 in
/-- A slice of ints that came in. -/
theorem ints_open {H : Type} {enc : TypeId × Value → H} {W : World} {v : Value} {d : DataW H} {p : List MemPlace} {base : Nat} (hv : Value.okWide Try.prog W .any base 22 v)
    (h : DataW.Trod enc Try.prog W 0 (fun _ => true) true 22 v d p) : ∃ l : List Int, IntsAt W v l ∧ l.length ≤ 9223372036854775807 := by
  obtain ⟨a0, len, cap, rfl⟩ := okWide_slice Try.underlying22 hv
  obtain ⟨fuel, hf⟩ := h
  rcases open_ints Try.underlying22 Try.underlying3 Try.cellsInt hf with ⟨hcs, _⟩ | ⟨x, l, c, zs, hcs, _, hl, hm, hz, hx, hcell, hwf⟩
  · simp [Value.cells] at hcs
    obtain ⟨rfl, rfl, rfl⟩ := hcs
    exact ⟨[], ⟨none, 0, rfl, Nat.le_refl _, fun k hk => by simp at hk⟩, by simp⟩
  · simp [Value.cells] at hcs
    obtain ⟨rfl, rfl, rfl⟩ := hcs
    have hss : zs.length = cap := by simpa using hz
    have hlen : (zs.take len).length = len := by rw [List.length_take]; omega
    unfold maxLen at hm
    refine ⟨zs.take len, ⟨some x, cap, by rw [hlen], by rw [hlen]; exact hl, fun k hk => ?_⟩, by rw [hlen]; omega⟩
    rw [hlen] at hk
    have hc := hcell k (by omega)
    have hb := block_lt_of_cell hc
    obtain ⟨b, off, sp⟩ := x
    have hsp : sp = none := by
      cases sp with
      | none => rfl
      | some s =>
        have h0 := hcell 0 (by omega)
        unfold Addr.add at h0
        unfold World.cell? at h0
        simp at h0
        split at h0 <;> simp at h0
    subst hsp
    rw [Addr.add_mid] at hc hb
    have hg : (zs.take len).getD k 0 = zs.getD k 0 := by simp [List.getD_eq_getElem?_getD, hk]
    have hbd := bounds_i64 (hwf (zs.getD k 0) (by rw [List.getD_eq_getElem?_getD, List.getElem?_eq_getElem (show k < zs.length by omega)]; exact List.getElem_mem _))
    exact ⟨b, off, rfl, hb, by rw [hc, hg], by rw [hg]; exact hbd.1, by rw [hg]; exact hbd.2⟩

end Go.Proofs.Ytnjaofkieajnlab
