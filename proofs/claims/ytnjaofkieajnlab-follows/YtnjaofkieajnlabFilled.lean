/- A box with pieces of a word put in. -/
import Derived.Test.YtnjaofkieajnlabPBox9
import Derived.Test.YtnjaofkieajnlabWordKn
import Derived.Test.YtnjaofkieajnlabWord
namespace Go.Proofs.Ytnjaofkieajnlab
open Go.RowKit

/-- A slice of ints that came in, as it is read. -/
def IntsAt (w : World) (v : Value) (l : List Int) : Prop :=
  ∃ ao cap, v = .slice ao l.length cap ∧ l.length ≤ cap ∧ ∀ k, k < l.length → ∃ q o, ao = some ⟨q, o, none⟩ ∧ q < w.heap.size ∧ w.cell? ⟨q, o + k, none⟩ = some (.int .i64 (l.getD k 0)) ∧ -9223372036854775808 ≤ l.getD k 0 ∧ l.getD k 0 ≤ 9223372036854775807

theorem IntsAt.on {w w1 : World} {v : Value} {l : List Int} (h : IntsAt w v l) {m : Nat} (hm : w.heap.size ≤ m) (hb : Below m w w1) : IntsAt w1 v l := by
  obtain ⟨ao, cap, hv, hc, h⟩ := h
  refine ⟨ao, cap, hv, hc, fun k hk => ?_⟩
  obtain ⟨q, o, ha, hq, h1, h2⟩ := h k hk
  exact ⟨q, o, ha, Nat.lt_of_lt_of_le hq hb.size, by rw [hb.cell (p := ⟨q, o + k, none⟩) (Nat.lt_of_lt_of_le hq hm)]; exact h1, h2⟩

theorem pick_place (c : Int) (n : Nat) (hn : 0 < n) : rawOf c % (n : Int) = (placeOf n c : Int) := by
  unfold placeOf rawOf
  have h1 := Int.emod_nonneg (if c < 0 then -(c + 1) else c) (show (n : Int) ≠ 0 by omega)
  omega

set_option maxRecDepth 100000 in
set_option maxHeartbeats 4000000 in
theorem filled_ok (K M O S z : Nat) (v av : Value) (P : List ByteArray) (l : List Int) (w : World) (hs : SpecOk K M O S z) (hw : IsWord K M O S z P) (ht : TextsAt w v P) (ha : IntsAt w av l) (hl : l.length ≤ 9223372036854775807) :
    Calls Try.prog 11 #[specV K M O S, .int .i64 (z : Int), v, av] w fun e w' => ∃ p, e = .returned (.pointer (some ⟨p, 0, none⟩)) ∧ w.heap.size ≤ p ∧ BoxAt w' p K (K + M) z (ofs K M O S) (fillTo K M O S P l l.length) ∧ Below w.heap.size w w' := by
  obtain ⟨hK, hM, hO, hS, hz⟩ := hs
  obtain ⟨ao, acap, rfl, hac, ha⟩ := ha
  obtain ⟨to_, tcap, rfl, htc, ht⟩ := ht
  have hlen := hw.len
  have HA := hide ha
  have HT := hide ht
  have HW := hide hw
  have hfok := fun k => fillTo_ok hw hK l k
  have hfs : ∀ k, fillTo K M O S P l (k + 1) = putK (fillTo K M O S P l k) (ofs K M O S (placeOf (K + M) (l.getD k 0))) (P.getD (placeOf (K + M) (l.getD k 0)) ByteArray.empty) := fun k => rfl
  have HF := hide hfok
  have HS := hide hfs
  clear ha ht hw hfok hfs
  go_enter Try.func11, Try.ntmps11
  go_wp2_with fail
  refine (new_ok K M O S z _ hK hM hO hS hz).mono ?_
  rintro e w1 ⟨p, rfl, hbox, hp, hb1⟩
  rw [World.size_alloc] at hp hb1
  have hbw : Below w.heap.size w w1 := ((Below.refl _ _).alloc (Nat.le_refl _) _).trans (hb1.mono (by omega))
  clear hb1
  go_wp2_with fail
  go_loopw [28] (fun iv wr => ∃ k : Nat, k ≤ l.length ∧ iv = .int .i64 (k : Int) ∧ BoxAt wr p K (K + M) z (ofs K M O S) (fillTo K M O S P l k) ∧ Below w.heap.size w wr) (fun iv _ => l.length - (intOf iv).toNat)
  case atStart => exact ⟨0, Nat.zero_le _, rfl, hbox, hbw⟩
  case round =>
    clear hbox hbw
    obtain ⟨k, hk, rfl, hbox, hbw⟩ := hrel
    by_cases hlt : k < l.length
    · obtain ⟨q, o, rfl, hq, hc, c1, c2⟩ := HA.out k hlt
      have hc2 := (hbw.cell (p := ⟨q, o + k, none⟩) hq).trans hc
      have hsk := HS.out k
      have hok := HF.out k
      have hpl := placeOf_lt (K + M) (l.getD k 0) (by omega)
      have hpp := pick_place (l.getD k 0) (K + M) (by omega)
      rw [Int.natCast_add] at hpp
      obtain ⟨q2, o2, rfl, hq2, ht2⟩ := HT.out (placeOf (K + M) (l.getD k 0)) (by omega)
      have ht3 := (hbw.cell (p := ⟨q2, o2 + placeOf (K + M) (l.getD k 0), none⟩) hq2).trans ht2
      have hpe : putE (left (fillTo K M O S P l k) (ofs K M O S (placeOf (K + M) (l.getD k 0))) (P.getD (placeOf (K + M) (l.getD k 0)) ByteArray.empty)) z = 0 := by
        unfold putE
        rw [if_neg (fun h => h.2 (hok.nought HW.out hpl h.1))]
      have hps := HW.out.at_size hpl
      have Hsk := hide hsk
      have Hpe := hide hpe
      clear hc ht2 hsk hpe
      generalize l.getD k 0 = c at *
      generalize placeOf (K + M) c = pl at *
      generalize P.getD pl ByteArray.empty = pc at *
      have i1 : (0 : Int) ≤ (k : Int) := by omega
      have i2 : (k : Int) < (l.length : Int) := by omega
      have i3 : (0 : Int) ≤ (pl : Int) := by omega
      have i4 : (pl : Int) < (K : Int) + (M : Int) := by omega
      have Hpp := hide hpp
      clear hpp
      go_wp2_with fail
      refine (pick_any c _ _ c1 c2 (by omega)).mono ?_
      rintro e w2 ⟨rfl, hw2⟩
      obtain rfl := hw2.symm
      rw [Hpp.out]
      go_wp2_with fail
      refine (put_ok p K (K + M) z pl _ (ofs K M O S) _ _ hK.2 hok.ok (ofs_lt K M O S) (by omega) (by omega) hpl hps hbox).mono ?_
      rintro e w3 ⟨rfl, hbox3, hcg⟩
      rw [Hpe.out]
      have hbw3 := below_chg hbw hcg (fun k hk => by rw [hk]; omega)
      rw [← Hsk.out] at hbox3
      clear hbox hcg hbw hc2 ht3
      go_wp2_with fail
      go_roundw
      case rel => exact ⟨k + 1, by omega, by go_num, hbox3, hbw3⟩
      case measure => simp [intOf]; omega
    · have hkk : k = l.length := by omega
      subst hkk
      go_wp2_with fail
      go_ret
      exact ⟨p, rfl, by omega, hbox, hbw⟩

end Go.Proofs.Ytnjaofkieajnlab
