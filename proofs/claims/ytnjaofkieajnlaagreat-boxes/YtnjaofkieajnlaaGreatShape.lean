/- Whether pieces are of one size that may be: the program's sizeOf and the document's Shaped; and sameTexts. -/
import Derived.Test.YtnjaofkieajnlaaGreatSum
namespace Go.Proofs.YtnjaofkieajnlaaGreat
open Go.RowKit

/-- There are n pieces, all of one size from 1 to 16. -/
def Shaped (l : List ByteArray) (n : Nat) : Prop := l.length = n ∧ ∀ k, k < l.length → (l.getD k ByteArray.empty).size = (l.getD 0 ByteArray.empty).size ∧ 1 ≤ (l.getD k ByteArray.empty).size ∧ (l.getD k ByteArray.empty).size ≤ 16

set_option maxRecDepth 100000 in
set_option maxHeartbeats 2000000 in
theorem sizeOf_any (v : Value) (l : List ByteArray) (n : Nat) (w : World) (hn : 1 ≤ n ∧ n ≤ 1000) (hl : l.length ≤ 8796093022208) (ht : TextsAt w v l) :
    Calls Tryz.prog 117 #[v, .int .i64 (n : Int)] w fun e w' => (∃ r : Nat, e = .returned (.int .i64 (r : Int)) ∧ (Shaped l n → r = (l.getD 0 ByteArray.empty).size ∧ 1 ≤ r ∧ r ≤ 16) ∧ (¬ Shaped l n → r = 0)) ∧ w' = w := by
  obtain ⟨ao, cap, rfl, hcap, hc⟩ := ht
  by_cases hln : l.length = n
  · subst hln
    have hl0 : 0 < l.length := by omega
    obtain ⟨q, o, rfl, hq, hc0⟩ := hc 0 hl0
    have hcells : ∀ k, k < l.length → w.cell? ⟨q, o + k, none⟩ = some (.string (l.getD k ByteArray.empty)) := fun k hk => by
      obtain ⟨q', o', he, _, hcell⟩ := hc k hk
      simp at he
      obtain ⟨rfl, rfl⟩ := he
      exact hcell
    have HC := hide hcells
    have hsh : Hid (Shaped l l.length ↔ ∀ k, k < l.length → (l.getD k ByteArray.empty).size = (l.getD 0 ByteArray.empty).size ∧ 1 ≤ (l.getD k ByteArray.empty).size ∧ (l.getD k ByteArray.empty).size ≤ 16) := hide ⟨fun h => h.2, fun h => ⟨rfl, h⟩⟩
    clear hc hcells
    simp only [Nat.add_zero] at hc0
    generalize hp : l.getD 0 ByteArray.empty = p at *
    have Hp := hide hp
    clear hp
    by_cases h16 : 16 < p.size
    · have hno : ¬ Shaped l l.length := fun h => by have := (hsh.out.1 h) 0 hl0; rw [Hp.out] at this; omega
      have Hno := hide hno
      clear hno
      go_enter Tryz.func117, Tryz.ntmps117
      go_wp2
      go_ret
      exact ⟨⟨0, rfl, fun h => absurd h Hno.out, fun _ => rfl⟩, rfl⟩
    · have h16' : p.size ≤ 16 := by omega
      go_enter Tryz.func117, Tryz.ntmps117
      go_wp2
      clear hc0
      go_loop [24] (fun i => ∃ k : Nat, k ≤ l.length ∧ i = .int .i64 k ∧ ∀ j, j < k → (l.getD j ByteArray.empty).size = p.size) (fun i => l.length - (intOf i).toNat)
      case atStart => exact ⟨0, Nat.zero_le _, rfl, fun j hj => by omega⟩
      case round =>
        obtain ⟨k, hk, rfl, hall⟩ := hrel
        have Hall := hide hall
        clear hall
        by_cases hlt : k < l.length
        · have hcell := HC.out k hlt
          generalize hx : l.getD k ByteArray.empty = x at *
          have Hx := hide hx
          clear hx
          by_cases he : x.size = p.size
          · have hb : ((x.size : Int) != (p.size : Int)) = false := by simp [he]
            have He := hide he
            clear he
            go_wp2
            go_round
            case rel =>
              refine ⟨k + 1, by omega, by go_num, fun j hj => ?_⟩
              by_cases e : j = k
              · subst e; rw [Hx.out]; exact He.out
              · exact Hall.out j (by omega)
            case measure => simp [intOf]; omega
          · have hb : ((x.size : Int) != (p.size : Int)) = true := by simp; omega
            have hno : ¬ Shaped l l.length := fun h => by have := (hsh.out.1 h) k hlt; rw [Hx.out] at this; omega
            have Hno := hide hno
            clear hno he
            go_wp2
            go_ret
            exact ⟨⟨0, rfl, fun h => absurd h Hno.out, fun _ => rfl⟩, rfl⟩
        · have hkl : k = l.length := by omega
          go_wp2
          go_ret
          refine ⟨⟨p.size, rfl, fun h => ?_, fun h => ?_⟩, rfl⟩
          · have := (hsh.out.1 h) 0 hl0
            rw [Hp.out] at this
            exact ⟨rfl, this.2.1, this.2.2⟩
          · by_cases h1 : 1 ≤ p.size
            · exact absurd (hsh.out.2 (fun j hj => by have := Hall.out j (by omega); omega)) h
            · omega
  · have hno : ¬ Shaped l n := fun h => hln h.1
    have hb : ((l.length : Int) != (n : Int)) = true := by simp; omega
    have Hno := hide hno
    clear hno hln hc
    go_enter Tryz.func117, Tryz.ntmps117
    go_wp2
    go_ret
    exact ⟨⟨0, rfl, fun h => absurd h Hno.out, fun _ => rfl⟩, rfl⟩

end Go.Proofs.YtnjaofkieajnlaaGreat
