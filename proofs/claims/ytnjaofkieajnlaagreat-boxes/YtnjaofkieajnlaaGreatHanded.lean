/- The document's Shaped; sameTexts says yes to two lists of the same texts; handed and still. -/
import Derived.Test.YtnjaofkieajnlaaGreatShape
import Derived.Laws.CopyOwn
namespace Go.Proofs.YtnjaofkieajnlaaGreat
open Go.RowKit

theorem texts_cells {w : World} {ao : Option Addr} {l : List ByteArray} {q o : Nat} (hc : ∀ k, k < l.length → ∃ q o, ao = some ⟨q, o, none⟩ ∧ q < w.heap.size ∧ w.cell? ⟨q, o + k, none⟩ = some (.string (l.getD k ByteArray.empty))) (he : ao = some ⟨q, o, none⟩) :
    ∀ k, k < l.length → w.cell? ⟨q, o + k, none⟩ = some (.string (l.getD k ByteArray.empty)) := fun k hk => by
  obtain ⟨q', o', he', _, hcell⟩ := hc k hk
  rw [he] at he'
  simp at he'
  obtain ⟨rfl, rfl⟩ := he'
  exact hcell

/-- The answer tells whether p. -/
def Tells (p : Prop) (e : Ending) : Prop := ∃ b, e = .returned (.bool b) ∧ (p → b = true) ∧ (¬ p → b = false)

set_option maxRecDepth 100000 in
set_option maxHeartbeats 2000000 in
theorem shaped_any (v : Value) (l : List ByteArray) (n : Nat) (w : World) (hn : n ≤ 1000) (hl : l.length ≤ 8796093022208) (ht : TextsAt w v l) :
    Calls Tryz.prog 75 #[v, .int .i64 (n : Int)] w fun e w' => Tells (Shaped l n) e ∧ w' = w := by
  obtain ⟨ao, cap, rfl, hcap, hc⟩ := ht
  by_cases hln : l.length = n
  · subst hln
    have hsh : Hid (Shaped l l.length ↔ ∀ k, k < l.length → (l.getD k ByteArray.empty).size = (l.getD 0 ByteArray.empty).size ∧ 1 ≤ (l.getD k ByteArray.empty).size ∧ (l.getD k ByteArray.empty).size ≤ 16) := hide ⟨fun h => h.2, fun h => ⟨rfl, h⟩⟩
    have HC := hide hc
    clear hc
    go_enter Tryz.func75, Tryz.ntmps75
    go_wp2
    go_loop [13] (fun i => ∃ k : Nat, k ≤ l.length ∧ i = .int .i64 k ∧ ∀ j, j < k → (l.getD j ByteArray.empty).size = (l.getD 0 ByteArray.empty).size ∧ 1 ≤ (l.getD j ByteArray.empty).size ∧ (l.getD j ByteArray.empty).size ≤ 16) (fun i => l.length - (intOf i).toNat)
    case atStart => exact ⟨0, Nat.zero_le _, rfl, fun j hj => by omega⟩
    case round =>
      obtain ⟨k, hk, rfl, hall⟩ := hrel
      have Hall := hide hall
      clear hall
      by_cases hlt : k < l.length
      · obtain ⟨q, o, rfl, hq, hcell⟩ := HC.out k hlt
        have hc0 := texts_cells HC.out rfl 0 (by omega)
        simp only [Nat.add_zero] at hc0
        generalize hx : l.getD k ByteArray.empty = x at *
        generalize hp : l.getD 0 ByteArray.empty = p at *
        have Hx := hide hx
        have Hp := hide hp
        clear hx hp
        by_cases hgood : x.size = p.size ∧ 1 ≤ x.size ∧ x.size ≤ 16
        · have hb1 : ((x.size : Int) != (p.size : Int)) = false := by simp; omega
          have hb2 : decide ((x.size : Int) < 1) = false := by simp; omega
          have hb3 : decide ((16 : Int) < (x.size : Int)) = false := by simp; omega
          have Hg := hide hgood
          clear hgood
          go_wp2
          go_round
          case rel =>
            refine ⟨k + 1, by omega, by go_num, fun j hj => ?_⟩
            by_cases e : j = k
            · subst e; rw [Hx.out]; exact Hg.out
            · exact Hall.out j (by omega)
          case measure => simp [intOf]; omega
        · have hno : ¬ Shaped l l.length := fun h => by have := (hsh.out.1 h) k hlt; rw [Hx.out] at this; exact hgood this
          have Hno := hide hno
          have hor : (x.size ≠ p.size) ∨ (x.size = p.size ∧ x.size < 1) ∨ (x.size = p.size ∧ 1 ≤ x.size ∧ 16 < x.size) := by omega
          clear hno hgood
          rcases hor with h1 | ⟨h1, h2⟩ | ⟨h1, h2, h3⟩
          · have hb1 : ((x.size : Int) != (p.size : Int)) = true := by simp; omega
            clear h1
            go_wp2
            go_ret
            exact ⟨⟨false, rfl, fun h => absurd h Hno.out, fun _ => rfl⟩, rfl⟩
          · have hb1 : ((x.size : Int) != (p.size : Int)) = false := by simp; omega
            have hb2 : decide ((x.size : Int) < 1) = true := by simp; omega
            clear h1
            go_wp2
            go_ret
            exact ⟨⟨false, rfl, fun h => absurd h Hno.out, fun _ => rfl⟩, rfl⟩
          · have hb1 : ((x.size : Int) != (p.size : Int)) = false := by simp; omega
            have hb2 : decide ((x.size : Int) < 1) = false := by simp; omega
            clear h1
            go_wp2
            go_ret
            exact ⟨⟨false, rfl, fun h => absurd h Hno.out, fun _ => rfl⟩, rfl⟩
      · go_wp2
        go_ret
        exact ⟨⟨true, rfl, fun _ => rfl, fun h => absurd (hsh.out.2 (fun j hj => Hall.out j (by omega))) h⟩, rfl⟩
  · have hno : ¬ Shaped l n := fun h => hln h.1
    have hb : ((l.length : Int) != (n : Int)) = true := by simp; omega
    have Hno := hide hno
    clear hno hln hc
    go_enter Tryz.func75, Tryz.ntmps75
    go_wp2
    go_ret
    exact ⟨⟨false, rfl, fun h => absurd h Hno.out, fun _ => rfl⟩, rfl⟩

set_option maxRecDepth 100000 in
set_option maxHeartbeats 2000000 in
theorem sameTexts_yes (v1 v2 : Value) (l : List ByteArray) (w : World) (hl : l.length ≤ 8796093022208) (h1 : TextsAt w v1 l) (h2 : TextsAt w v2 l) :
    Calls Tryz.prog 18 #[v1, v2] w fun e w' => e = .returned (.bool true) ∧ Chg (fun _ => False) w w' := by
  obtain ⟨a1, p1, rfl, hp1, hc1⟩ := h1
  obtain ⟨a2, p2, rfl, hp2, hc2⟩ := h2
  have H1 := hide hc1
  have H2 := hide hc2
  clear hc1 hc2
  go_enter Tryz.func18, Tryz.ntmps18
  go_wp2
  go_loopw [13] (fun i wr => ∃ k : Nat, k ≤ l.length ∧ i = .int .i64 k ∧ Chg (fun _ => False) w wr) (fun i _ => l.length - (intOf i).toNat)
  case atStart => exact ⟨0, Nat.zero_le _, rfl, Chg.refl _ _⟩
  case round =>
    obtain ⟨k, hk, rfl, hcg⟩ := hrel
    by_cases hlt : k < l.length
    · obtain ⟨q1, o1, rfl, b1, e1⟩ := H1.out k hlt
      obtain ⟨q2, o2, rfl, b2, e2⟩ := H2.out k hlt
      have e1' := (hcg.cell (a := ⟨q1, o1 + k, none⟩) b1 (fun x => x)).trans e1
      have e2' := (hcg.cell (a := ⟨q2, o2 + k, none⟩) b2 (fun x => x)).trans e2
      clear e1 e2
      generalize l.getD k ByteArray.empty = x at *
      have i1 : (0 : Int) ≤ (k : Int) := by omega
      have i2 : (k : Int) < (l.length : Int) := by omega
      go_wp2_with fail
      go_quiet (fail)
      have hcq := hcg.drewN nq
      clear hcg e1' e2'
      go_wp2
      go_roundw
      case rel => exact ⟨k + 1, by omega, by go_num, hcq⟩
      case measure => simp [intOf]; omega
    · go_wp2
      go_ret
      exact ⟨rfl, hcg⟩

end Go.Proofs.YtnjaofkieajnlaaGreat
