/- The document's own told: what facts say of the sum of some pieces. -/
import Derived.Test.YtnjaofkieajnlaaGreatFacts
namespace Go.Proofs.YtnjaofkieajnlaaGreat
open Go.RowKit

theorem stairsAll_all (z : Nat) (l : List Fct) (hs : Sized z l) (hl : Low 40 l) (n : Nat) (hn : n = 40) : Sized z (stairsAll l n) ∧ ∀ f ∈ stairsAll l n, f.1 < 1099511627776 := by
  have hk := stair_ok z l hs hl n (by omega)
  refine ⟨hk.sized, fun f hf => ?_⟩
  have h1 := sp_low (l.map Prod.fst) 40 (fun x hx j hj => by obtain ⟨g, hg, rfl⟩ := List.mem_map.1 hx; exact hl g hg j hj) ((sp_iff l f.1).2 ⟨_, hk.back f hf⟩)
  have h2 : f.1 < 2 ^ 40 := Nat.lt_pow_two_of_testBit _ (fun i hi => h1 i hi)
  omega

theorem stairs_all (z : Nat) (l : List Fct) (hs : Sized z l) (hl : Low 40 l) : Sized z (stairs l) ∧ ∀ f ∈ stairs l, f.1 < 1099511627776 := stairsAll_all z l hs hl 40 rfl

theorem stairsAll_len (l : List Fct) (n : Nat) : (stairsAll l n).length ≤ l.length := by
  have := stairsTo_len l n
  show ((stairsTo l n).1 ++ (stairsTo l n).2).length ≤ _
  rw [List.length_append]; exact this

theorem stairs_len (l : List Fct) : (stairs l).length ≤ l.length := stairsAll_len l 40

/-- What is told as far as k. -/
def telling (S : List Fct) (st : Nat × ByteArray) (k : Nat) : Nat × ByteArray := tell (S.take k) st

theorem telling_succ (S : List Fct) (st : Nat × ByteArray) (k : Nat) (h : k < S.length) : telling S st (k + 1) = tellStep (telling S st k) (S.getD k (0, ByteArray.empty)) := by
  unfold telling tell
  rw [List.take_succ_eq_append_getElem h, List.foldl_append, List.getD_eq_getElem?_getD, List.getElem?_eq_getElem h]; rfl

theorem telling_all (S : List Fct) (st : Nat × ByteArray) : telling S st S.length = tell S st := by unfold telling; rw [List.take_length]

theorem log2_up {x h : Nat} (hx : x < 1099511627776) (hh : h ≤ x.log2) : (h < 40 ∧ (1 : Int) < (x : Int) / 2 ^ h ∧ h + 1 ≤ x.log2) ∨ (h = x.log2 ∧ h < 40 ∧ ¬ (1 : Int) < (x : Int) / 2 ^ h) := by
  have h40 : x.log2 < 40 := by
    by_cases h0 : x = 0
    · subst h0; decide
    · exact (Nat.log2_lt h0).2 (by omega)
  rw [div_cast]
  by_cases hlt : h < x.log2
  · refine Or.inl ⟨by omega, ?_, hlt⟩
    have h0 : x ≠ 0 := fun e => by subst e; simp at hlt
    have h1 : 2 ^ (h + 1) ≤ x := (Nat.le_log2 h0).1 hlt
    have h2 : 2 ≤ x / 2 ^ h := (Nat.le_div_iff_mul_le (Nat.two_pow_pos h)).2 (by rw [Nat.pow_succ] at h1; omega)
    omega
  · have he : h = x.log2 := by omega
    refine Or.inr ⟨he, by omega, ?_⟩
    have h1 : x < 2 ^ (h + 1) := by rw [he]; exact Nat.lt_log2_self
    have h2 : x / 2 ^ h < 2 := Nat.div_lt_of_lt_mul (by rw [Nat.pow_succ] at h1; omega)
    omega

set_option maxRecDepth 100000 in
set_option maxHeartbeats 8000000 in
theorem told_any (v : Value) (l : List Fct) (x z : Nat) (w : World) (hl : l.length ≤ 1000) (hz : 0 < z ∧ z ≤ 1000) (hs : Sized z l) (hlo : Low 40 l) (hx : x < 1099511627776) (hat : FactsAt w v l) :
    Calls Tryz.prog 56 #[v, .int .i64 (x : Int), .int .i64 (z : Int)] w fun e w' => e = .returned (.tuple #[.string (told l x z).1, .bool (told l x z).2]) ∧ Below w.heap.size w w' := by
  have hSl := stairs_len l
  obtain ⟨hSz, hSx⟩ := stairs_all z l hs hlo
  have htd : told l x z = ((tell (stairs l) (x, zeroB z)).2, (tell (stairs l) (x, zeroB z)).1 == 0) := rfl
  go_enter Tryz.func56, Tryz.ntmps56
  go_wp2_with fail
  refine (noughts_any z _ (by omega)).mono ?_
  rintro e w0 ⟨rfl, rfl⟩
  go_wp2_with fail
  refine (stairs_any v l z _ hl hz hs hlo hat).mono ?_
  rintro e w1 ⟨v1, rfl, hown, hb1⟩
  have hS := owns_facts hown
  clear hown hat
  generalize stairs l = S at *
  obtain ⟨ao, cap, rfl, hcap, hL⟩ := hS
  go_wp2_with fail
  go_loopw [1, 8, 17] (fun bv tv iv wr => ∃ k : Nat, k ≤ S.length ∧ iv = .int .i64 (k : Int) ∧ bv = .int .i64 ((telling S (x, zeroB z) k).1 : Int) ∧ tv = .string (telling S (x, zeroB z) k).2 ∧ (telling S (x, zeroB z) k).1 < 1099511627776 ∧ (telling S (x, zeroB z) k).2.size = z ∧ Below w1.heap.size w1 wr) (fun _ _ i _ => S.length - (intOf i).toNat)
  case atStart => exact ⟨0, Nat.zero_le _, rfl, rfl, rfl, hx, zeroB_size z, Below.refl _ _⟩
  case round =>
    obtain ⟨k, hk, rfl, rfl, rfl, hb, ht, hbel⟩ := hrel
    by_cases hkS : k < S.length
    · obtain ⟨q, rfl, hq, c0, c1⟩ := hL k hkS
      have d0 := (hbel.cell (p := ⟨q, k * 2, none⟩) hq).trans c0
      have d1 := (hbel.cell (p := ⟨q, k * 2 + 1, none⟩) hq).trans c1
      have hts := telling_succ S (x, zeroB z) k hkS
      have hfl : S.getD k (0, ByteArray.empty) ∈ S := by rw [List.getD_eq_getElem?_getD, List.getElem?_eq_getElem hkS]; exact List.getElem_mem hkS
      have hf1 := hSx _ hfl
      have hf2 := hSz _ hfl
      generalize S.getD k (0, ByteArray.empty) = f at *
      generalize telling S (x, zeroB z) k = st at *
      obtain ⟨b, t⟩ := st
      dsimp only at hb ht ⊢
      have i1 : (0 : Int) ≤ (k : Int) := by omega
      have i2 : (k : Int) < (S.length : Int) := by omega
      have Hts := hide hts
      clear c0 c1 hL hts htd
      go_wp2_with fail
      go_loop [11] (fun hv => ∃ h : Nat, h ≤ f.1.log2 ∧ hv = .int .i64 (h : Int)) (fun hv => 40 - (intOf hv).toNat)
      case atStart => exact ⟨0, Nat.zero_le _, rfl⟩
      case round =>
        obtain ⟨h, hh, rfl⟩ := hrel
        rcases log2_up hf1 hh with ⟨h1, h2, h3⟩ | ⟨h1, h2, h3⟩
        · have h1' : (h : Int) < 40 := by omega
          go_wp2_with fail
          go_round
          case rel => exact ⟨h + 1, h3, by go_num⟩
          case measure => simp [intOf]; omega
        · subst h1
          have h1' : ((f.1.log2 : Nat) : Int) < 40 := by omega
          have hbo := bit_on b f.1.log2 (by omega)
          by_cases hf0 : f.1 = 0
          · have hne : ((f.1 : Int) != 0) = false := by rw [hf0]; rfl
            have hnx : telling S (x, zeroB z) (k + 1) = (b, t) := by rw [Hts.out]; simp [tellStep, hf0]
            have Hnx := hide hnx
            clear hnx hf0 hbo
            go_wp2_with fail
            go_roundw
            case rel => exact ⟨k + 1, by omega, by go_num, by rw [Hnx.out], by rw [Hnx.out], by rw [Hnx.out]; exact hb, by rw [Hnx.out]; exact ht, hbel.alloc hbel.size _⟩
            case measure => simp [intOf]; omega
          · have hne : ((f.1 : Int) != 0) = true := by simp [bne]; exact hf0
            by_cases htb : b.testBit f.1.log2 = true
            · rw [htb] at hbo
              have hnx : telling S (x, zeroB z) (k + 1) = (b ^^^ f.1, xorB t f.2) := by rw [Hts.out]; simp [tellStep, hf0, htb]
              have Hnx := hide hnx
              have hx2 := i64_xor_nat b f.1 (by omega) (by omega)
              have Hx2 := hide hx2
              have hlt2 : b ^^^ f.1 < 2 ^ 40 := Nat.xor_lt_two_pow (by omega) (by omega)
              have htf : t.size = f.2.size := by omega
              clear hnx hx2
              go_wp2_with fail
              refine (plus_any t f.2 _ htf (by omega) (by omega)).mono ?_
              rintro e wp ⟨rfl, hbp⟩
              have hb2 : Below w1.heap.size w1 wp := (hbel.alloc hbel.size _).trans (hbp.mono (by have := hbel.size; simp; omega))
              clear hbp hbel d0 d1
              go_wp2_with fail
              go_roundw
              case rel => exact ⟨k + 1, by omega, by go_num, by rw [Hnx.out, Hx2.out], by rw [Hnx.out], by rw [Hnx.out]; show b ^^^ f.1 < _; omega, by rw [Hnx.out]; show (xorB t f.2).size = z; rw [xorB_size htf]; exact ht, hb2⟩
              case measure => simp [intOf]; omega
            · have htb2 : b.testBit f.1.log2 = false := by simpa using htb
              rw [htb2] at hbo
              have hnx : telling S (x, zeroB z) (k + 1) = (b, t) := by rw [Hts.out]; simp [tellStep, htb2]
              have Hnx := hide hnx
              clear hnx
              go_wp2_with fail
              go_roundw
              case rel => exact ⟨k + 1, by omega, by go_num, by rw [Hnx.out], by rw [Hnx.out], by rw [Hnx.out]; exact hb, by rw [Hnx.out]; exact ht, hbel.alloc hbel.size _⟩
              case measure => simp [intOf]; omega
    · have hkk : k = S.length := by omega
      rw [hkk, telling_all]
      have hb2 : Below w0.heap.size w0 wr := hb1.trans (hbel.mono hb1.size)
      have Htd := hide htd
      have hbz : (((tell S (x, zeroB z)).1 : Int) == 0) = ((tell S (x, zeroB z)).1 == 0) := by
        cases hc : ((tell S (x, zeroB z)).1 == 0)
        · simp at hc ⊢; exact hc
        · simp at hc ⊢; exact hc
      clear htd hL hb ht
      generalize tell S (x, zeroB z) = st at *
      obtain ⟨b, t⟩ := st
      dsimp only at hbz Htd ⊢
      go_wp2_with fail
      go_ret2
      exact ⟨by rw [Htd.out]; rfl, hb2⟩

end Go.Proofs.YtnjaofkieajnlaaGreat
