/- Falls: Need begins at K, falls by one with each piece that did not follow, and is 0 just where all follow. -/
import Derived.Test.YtnjaofkieajnlabFollows
namespace Go.Proofs.Ytnjaofkieajnlab
open Go.RowKit

/-- Is a place below i open? -/
def openB (T : Nat → Nat) (z : Nat) (kn : Kn) : Nat → Bool
  | 0 => false
  | i + 1 => openB T z kn i || !((left kn (T i) (zeroB z)).1 == 0)

theorem openB_succ (T : Nat → Nat) (z : Nat) (kn : Kn) (i : Nat) : openB T z kn (i + 1) = (openB T z kn i || !((left kn (T i) (zeroB z)).1 == 0)) := rfl

theorem openB_false (T : Nat → Nat) (z : Nat) (kn : Kn) (n : Nat) : openB T z kn n = false ↔ ∀ i, i < n → (left kn (T i) (zeroB z)).1 = 0 := by
  induction n with
  | zero => exact ⟨fun _ i hi => by omega, fun _ => rfl⟩
  | succ n ih =>
    rw [openB_succ, Bool.or_eq_false_iff, ih]
    constructor
    · rintro ⟨h1, h2⟩ i hi
      by_cases e : i = n
      · subst e; simpa using h2
      · exact h1 i (by omega)
    · intro h
      exact ⟨fun i hi => h i (by omega), by simpa using h n (by omega)⟩

theorem openB_all {K M O S z : Nat} {kn : Kn} (h : KnOk K z kn) (hK : K ≤ 20) (hM : 1 ≤ M) : openB (ofs K M O S) z kn (K + M) = decide ((0 : Int) < (openK kn K : Int)) := by
  have h1 := openB_false (ofs K M O S) z kn (K + M)
  rw [all_follow h hK hM] at h1
  cases hb : openB (ofs K M O S) z kn (K + M)
  · have := h1.1 hb
    rw [this]; rfl
  · have h2 : openK kn K ≠ 0 := fun e => by have := h1.2 e; rw [hb] at this; cases this
    exact (decide_eq_true (by omega)).symm

/-- How Need goes on. -/
theorem openK_next {K M O S z : Nat} {P : List ByteArray} {kn : Kn} (h : WKn K M O S z P kn) (hw : IsWord K M O S z P) (hK : K ≤ 20) {i : Nat} (hi : i < K + M) :
    ((left kn (ofs K M O S i) (zeroB z)).1 = 0 → openK (putK kn (ofs K M O S i) (P.getD i ByteArray.empty)) K = openK kn K) ∧ ((left kn (ofs K M O S i) (zeroB z)).1 ≠ 0 → openK (putK kn (ofs K M O S i) (P.getD i ByteArray.empty)) K + 1 = openK kn K) := by
  have hz := left_zero h.ok (ofs K M O S i) (zeroB_size z) (hw.at_size hi)
  constructor
  · intro h0
    unfold putK
    rw [if_pos (hz.1 h0)]
  · intro h0
    exact openK_put h.ok hK (hw.at_size hi) (ofs_lt K M O S i) (fun e => h0 (hz.2 e))

set_option maxRecDepth 100000 in
set_option maxHeartbeats 4000000 in
theorem falls_any (c : Int) (text : ByteArray) (av : Value) (at_ : List Int) (w : World) (h1 : -9223372036854775808 ≤ c) (h2 : c ≤ 9223372036854775807) (ht : text.size ≤ 9223372036854775807) (ha : IntsAt w av at_) (hal : at_.length ≤ 9223372036854775807) :
    Calls Try.prog 5 #[.int .i64 c, .string text, av] w fun e w' => e = .returned (.bool true) ∧ Below w.heap.size w w' := by
  go_enter Try.func5, Try.ntmps5
  go_wp2_with fail
  refine (spec_any c _ h1 h2).mono ?_
  rintro e w1 ⟨K, M, O, S, z, rfl, hs, hb1⟩
  have Hs := hide hs
  have hz := hs.hz
  have hK := hs.hK
  have hM := hs.hM
  clear hs
  go_wp2_with fail
  have hsp : (w1.alloc (specB K M O S)).heap[w1.heap.size]? = some (specB K M O S) := heap_alloc_new w1 _
  have hbA : Below w.heap.size w (w1.alloc (specB K M O S)) := hb1.alloc hb1.size _
  obtain ⟨c0, c1, c2, c3⟩ := spec_cells hsp
  go_region_held3 (fun w' => w'.cell? ⟨w1.heap.size, 0, none⟩ = some (.int .i64 (K : Int)) ∧ w'.cell? ⟨w1.heap.size, 1, none⟩ = some (.int .i64 (M : Int)) ∧ w'.cell? ⟨w1.heap.size, 2, none⟩ = some (.int .i64 (O : Int)) ∧ w'.cell? ⟨w1.heap.size, 3, none⟩ = some (.int .i64 (S : Int)))
    (first | (exact ⟨d0, d1, d2, d3⟩) | (exact ⟨e0, e1, e2, e3⟩) | go_keep)
    (first
      | (go_at_call 10; refine (pieces_any K z text _ (by omega) (by omega) ht).mono ?_; rintro e w2 ⟨v2, l, rfl, hl, hls, hown2, hb2⟩; obtain ⟨d0, d1, d2, d3⟩ := spec_cells (block_on (w := (w1.alloc (specB K M O S)).drew) hsp hb2))
      | (go_at_call 9; refine (word_ok K M O S z _ l _ Hs.out hl hls (owns_texts hown2 hl.symm)).mono ?_; rintro e w3 ⟨v3, rfl, hown3, hb3⟩; obtain ⟨e0, e1, e2, e3⟩ := spec_cells (block_on (block_on (w := (w1.alloc (specB K M O S)).drew) hsp hb2) hb3)))
  have hs3 : w3.heap[w1.heap.size]? = some (specB K M O S) := block_on (block_on (w := (w1.alloc (specB K M O S)).drew) hsp hb2) hb3
  have hb2' : Below w.heap.size w w2 := hbA.drew.trans (hb2.mono (by have := hb1.size; simp; omega))
  have hbw3 : Below w.heap.size w w3 := hb2'.trans (hb3.mono hb2'.size)
  have hwd := word_is K M O S z l hl hls
  have htx := owns_texts hown3 hwd.len.symm
  have ha3 := ha.on (Nat.le_refl _) hbw3
  clear d0 d1 d2 d3 e0 e1 e2 e3 hb2 hb3 hown2 hown3 hbA hsp hb2' c0 c1 c2 c3 ha hl hls hb1
  rename_i hheld
  clear hheld
  generalize knownTo l (rowOf K M O S) z M = P at *
  obtain ⟨c0, c1, c2, c3⟩ := spec_cells hs3
  have Hwd := hide hwd
  have Htx := hide htx
  have Ha3 := hide ha3
  have hPl := hwd.len
  clear hwd htx ha3
  go_wp2_with fail
  refine (filled_ok K M O S z v3 _ P [] _ Hs.out Hwd.out Htx.out ⟨none, 0, rfl, Nat.le_refl _, fun k hk => by simp at hk⟩ (by simp)).mono ?_
  rintro e w4 ⟨p, rfl, hp, hbox, hb4⟩
  have hbw4 := hbw3.trans (hb4.mono hbw3.size)
  have hs4 := block_on hs3 hb4
  have hbox0 : BoxAt w4 p K (K + M) z (ofs K M O S) (fillTo K M O S P at_ 0) := hbox
  have hfo := fun n => fillTo_ok Hwd.out hK at_ n
  have hfs : ∀ k, fillTo K M O S P at_ (k + 1) = putK (fillTo K M O S P at_ k) (ofs K M O S (placeOf (K + M) (at_.getD k 0))) (P.getD (placeOf (K + M) (at_.getD k 0)) ByteArray.empty) := fun k => rfl
  have hok0 : openK (fillTo K M O S P at_ 0) K = K := openK_kn0 K
  obtain ⟨ao, acap, rfl, hac, hA⟩ := Ha3.out
  obtain ⟨to_, tcap, rfl, htc, hT⟩ := Htx.out
  have HA := hide hA
  have HT := hide hT
  have HO := hide hfo
  have HS := hide hfs
  clear hA hT hfo hfs c0 c1 c2 c3 hs3 Htx Ha3 hbox hbw4
  obtain ⟨c0, c1, c2, c3⟩ := spec_cells hs4
  go_wp2_with fail
  clear c0 c1 c2 c3
  go_loopw [12, 13] (fun nv kv wr => ∃ n : Nat, n ≤ at_.length + 1 ∧ kv = .int .i64 ((n : Int) - 1) ∧ nv = .int .i64 (openK (fillTo K M O S P at_ (n - 1)) K : Int) ∧ BoxAt wr p K (K + M) z (ofs K M O S) (fillTo K M O S P at_ (n - 1)) ∧ Below w3.heap.size w3 wr) (fun _ kv _ => (at_.length - intOf kv).toNat)
  case atStart => exact ⟨0, Nat.zero_le _, rfl, by rw [show 0 - 1 = 0 from rfl, hok0], hbox0, hb4⟩
  case round =>
    clear hbox0 hb4 hok0
    obtain ⟨n, hn, rfl, rfl, hbox, hbr⟩ := hrel
    have hole := openK_le (fillTo K M O S P at_ (n - 1)) K
    by_cases hn0 : n = 0
    · subst hn0
      rw [show 0 - 1 = 0 from rfl] at hbox hole ⊢
      generalize hkn : fillTo K M O S P at_ 0 = kn at *
      have Hkn := hide hkn
      clear hkn
      go_wp2_with fail
      refine (need_any p K (K + M) z (ofs K M O S) kn _ hK.2 hbox).mono ?_
      rintro e w5 ⟨rfl, hw5⟩
      obtain rfl := hw5.symm
      go_wp2_with fail
      go_roundw
      case rel => exact ⟨1, by omega, rfl, by rw [show 1 - 1 = 0 from rfl, Hkn.out], by rw [show 1 - 1 = 0 from rfl, Hkn.out]; exact hbox, hbr⟩
      case measure => simp [intOf]
    · obtain ⟨j, rfl⟩ : ∃ j, n = j + 1 := ⟨n - 1, by omega⟩
      have hjc : (((j + 1 : Nat) : Int) - 1) = (j : Int) := by omega
      rw [hjc]
      rw [Nat.add_sub_cancel] at hbox hole ⊢
      clear hjc hn0
      by_cases hjl : j < at_.length
      · obtain ⟨q, o, rfl, hq, hc, b1, b2⟩ := HA.out j hjl
        have hc2 := (hbr.cell (p := ⟨q, o + j, none⟩) hq).trans hc
        have hsj := HS.out j
        have hok := HO.out j
        have hpl := placeOf_lt (K + M) (at_.getD j 0) (by omega)
        have hpp := pick_place (at_.getD j 0) (K + M) (by omega)
        rw [Int.natCast_add] at hpp
        have Hpp := hide hpp
        clear hc hpp
        generalize at_.getD j 0 = cc at *
        generalize placeOf (K + M) cc = pl at *
        obtain ⟨q2, o2, rfl, hq2, ht2⟩ := HT.out pl (by omega)
        have ht3 := (hbr.cell (p := ⟨q2, o2 + pl, none⟩) hq2).trans ht2
        have hps := Hwd.out.at_size hpl
        have hnx := openK_next hok Hwd.out hK.2 hpl
        have hpe : putE (left (fillTo K M O S P at_ j) (ofs K M O S pl) (P.getD pl ByteArray.empty)) z = 0 := by
          unfold putE
          rw [if_neg (fun h => h.2 (hok.nought Hwd.out hpl h.1))]
        have hget := get_ok p K (K + M) z pl (ofs K M O S) (fillTo K M O S P at_ j)
        have hput := put_ok p K (K + M) z pl (P.getD pl ByteArray.empty) (ofs K M O S) (fillTo K M O S P at_ j)
        have hneed := fun w => need_any p K (K + M) z (ofs K M O S) (fillTo K M O S P at_ (j + 1)) w hK.2
        rw [hpe] at hput
        rw [← hsj] at hnx hput
        have i1 : (0 : Int) ≤ (j : Int) := by omega
        have i2 : (j : Int) < (at_.length : Int) := by omega
        have i3 : (0 : Int) ≤ (pl : Int) := by omega
        have i4 : (pl : Int) < (K : Int) + (M : Int) := by omega
        clear ht2 hsj hpe
        generalize P.getD pl ByteArray.empty = pc at *
        generalize left (fillTo K M O S P at_ j) (ofs K M O S pl) (zeroB z) = L at *
        generalize hkn : fillTo K M O S P at_ j = kn at *
        generalize hkn2 : fillTo K M O S P at_ (j + 1) = kn2 at *
        have Hkn2 := hide hkn2
        have HN := hide hnx
        clear hkn hkn2 hnx
        go_wp2_with fail
        refine (pick_any cc _ _ b1 b2 (by omega)).mono ?_
        rintro e w5 ⟨rfl, hw5⟩
        obtain rfl := hw5.symm
        rw [Hpp.out]
        go_wp2_with fail
        refine (hget _ hK.2 hok.ok (ofs_lt K M O S) (by omega) (by omega) hpl hbox).mono ?_
        rintro e w6 ⟨rfl, hb6⟩
        have hbox6 := hbox.on (Nat.le_refl _) hb6
        have hbr6 := hbr.trans (hb6.mono hbr.size)
        have ht6 := (hb6.cell (p := ⟨q2, o2 + pl, none⟩) (Nat.lt_of_lt_of_le hq2 hbr.size)).trans ht3
        clear hbox hbr hb6 ht3 hget hc2
        by_cases h0 : L.1 = 0
        · rw [if_pos h0]
          have hon := HN.out.1 h0
          have Hon := hide hon
          clear hon h0
          go_wp2_with fail
          refine (hput _ hK.2 hok.ok (ofs_lt K M O S) (by omega) (by omega) hpl hps hbox6).mono ?_
          rintro e w7 ⟨rfl, hbox7, hcg⟩
          have hbr7 := below_chg hbr6 hcg (fun k hk => by rw [hk]; exact hp)
          clear hbox6 hcg hbr6 ht6 hput
          go_wp2_with fail
          refine (hneed _ hbox7).mono ?_
          rintro e w8 ⟨rfl, hw8⟩
          obtain rfl := hw8.symm
          rw [Hon.out]
          go_wp2_with fail
          go_roundw
          case rel => exact ⟨j + 2, by omega, by go_num, by rw [show j + 2 - 1 = j + 1 from rfl, Hkn2.out, Hon.out], by rw [show j + 2 - 1 = j + 1 from rfl, Hkn2.out]; exact hbox7, hbr7⟩
          case measure => simp [intOf]; omega
        · rw [if_neg h0]
          have hon := HN.out.2 h0
          have Hon := hide hon
          have hk2 : ((openK kn2 K : Nat) : Int) = (openK kn K : Int) - 1 := by omega
          have Hk2 := hide hk2
          clear hon h0 hk2
          go_wp2_with fail
          refine (hput _ hK.2 hok.ok (ofs_lt K M O S) (by omega) (by omega) hpl hps hbox6).mono ?_
          rintro e w7 ⟨rfl, hbox7, hcg⟩
          have hbr7 := below_chg hbr6 hcg (fun k hk => by rw [hk]; exact hp)
          clear hbox6 hcg hbr6 ht6 hput
          go_wp2_with fail
          refine (hneed _ hbox7).mono ?_
          rintro e w8 ⟨rfl, hw8⟩
          obtain rfl := hw8.symm
          rw [Hk2.out]
          go_wp2_with fail
          go_roundw
          case rel => exact ⟨j + 2, by omega, by go_num, by rw [show j + 2 - 1 = j + 1 from rfl, Hkn2.out, Hk2.out], by rw [show j + 2 - 1 = j + 1 from rfl, Hkn2.out]; exact hbox7, hbr7⟩
          case measure => simp [intOf]; omega
      · have hok := HO.out j
        have hall := openB_all (M := M) (O := O) (S := S) hok.ok hK.2 hM.1
        have Hall := hide hall
        clear hall
        generalize fillTo K M O S P at_ j = kn at *
        obtain ⟨W, rfl⟩ : ∃ W, W = wr := ⟨_, rfl⟩
        go_wp2_with fail
        go_loopw [19, 91] (fun ov iv wr => ∃ i : Nat, i ≤ K + M ∧ iv = .int .i64 (i : Int) ∧ ov = .bool (openB (ofs K M O S) z kn i) ∧ BoxAt wr p K (K + M) z (ofs K M O S) kn ∧ Below w3.heap.size w3 wr) (fun _ iv _ => K + M - (intOf iv).toNat)
        case atStart => exact ⟨0, Nat.zero_le _, rfl, rfl, hbox, hbr⟩
        case round =>
          clear hbox hbr
          obtain ⟨i, hi, rfl, rfl, hbox, hbr⟩ := hrel
          by_cases hlt : i < K + M
          · have hbs := openB_succ (ofs K M O S) z kn i
            have hget := get_ok p K (K + M) z i (ofs K M O S) kn
            have Hbs := hide hbs
            clear hbs
            generalize left kn (ofs K M O S i) (zeroB z) = L at *
            generalize openB (ofs K M O S) z kn i = bb at *
            go_wp2_with fail
            refine (hget _ hK.2 hok.ok (ofs_lt K M O S) (by omega) (by omega) hlt hbox).mono ?_
            rintro e w5 ⟨rfl, hb5⟩
            have hbox5 := hbox.on (Nat.le_refl _) hb5
            have hbr5 := hbr.trans (hb5.mono hbr.size)
            clear hbox hbr hb5 hget
            by_cases h0 : L.1 = 0
            · rw [if_pos h0]
              rw [h0] at Hbs
              cases bb
              all_goals
                go_wp2_with fail
                go_roundw
                case rel => exact ⟨i + 1, by omega, by go_num, by rw [Hbs.out]; rfl, hbox5, hbr5⟩
                case measure => simp [intOf]; omega
            · rw [if_neg h0]
              have h0b : (L.1 == 0) = false := by simpa using h0
              rw [h0b] at Hbs
              clear h0 h0b
              cases bb
              all_goals
                go_wp2_with fail
                go_roundw
                case rel => exact ⟨i + 1, by omega, by go_num, by rw [Hbs.out]; rfl, hbox5, hbr5⟩
                case measure => simp [intOf]; omega
          · have hii : i = K + M := by omega
            subst hii
            rw [Hall.out]
            go_wp2_with fail
            go_ret
            exact ⟨rfl, hbw3.trans (hbr.mono hbw3.size)⟩

end Go.Proofs.Ytnjaofkieajnlab
