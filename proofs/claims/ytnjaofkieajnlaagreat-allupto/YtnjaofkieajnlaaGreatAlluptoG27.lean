/- Texts of the proof, part 28. -/
import Derived.Test.YtnjaofkieajnlaaGreatAlluptoG11
import Derived.Test.YtnjaofkieajnlaaGreatAlluptoG25
import Derived.Test.YtnjaofkieajnlaaGreatAlluptoG26
import Derived.Test.YtnjaofkieajnlaaGreatAlluptoG6
import Derived.Test.YtnjaofkieajnlaaGreatAlluptoG8
import Derived.Test.YtnjaofkieajnlaaGreatAlluptoG9

/- The document's own Mail: its errors. -/
namespace Go.Proofs.YtnjaofkieajnlaaGreat
open Go.RowKit

set_option maxRecDepth 100000 in
set_option maxHeartbeats 4000000 in
theorem rmail_bad (K M O S z x : Int) (t : ByteArray) (w : World) (hmay : mayB K M O S = false) :
    Calls Tryz.prog 80 #[specV K M O S, .int .i64 z, .string t, .int .i64 x] w fun e w' => e = .returned (.tuple #[.slice none 0 0, .int .i64 1]) ∧ Below w.heap.size w w' := by
  have hma := fun W => may_below K M O S W
  rw [hmay] at hma
  go_enter Tryz.func80, Tryz.ntmps80
  go_wp2_with fail
  refine (hma _).mono ?_
  rintro e w1 ⟨rfl, hb1⟩
  have hbw1 : Below w.heap.size w w1 := ((Below.refl _ _).alloc (Nat.le_refl _) _).trans (hb1.mono (by simp))
  go_wp2_with fail
  go_ret2
  exact ⟨rfl, hbw1⟩

set_option maxRecDepth 100000 in
set_option maxHeartbeats 4000000 in
theorem rmail_arg (K M O S z x : Int) (t : ByteArray) (w : World) (hmay : mayB K M O S = true) (h : z < 1 ∨ 16 < z ∨ x < 0 ∨ 65535 < x) :
    Calls Tryz.prog 80 #[specV K M O S, .int .i64 z, .string t, .int .i64 x] w fun e w' => e = .returned (.tuple #[.slice none 0 0, .int .i64 2]) ∧ Below w.heap.size w w' := by
  have hma := fun W => may_below K M O S W
  rw [hmay] at hma
  have hor : z < 1 ∨ (¬ z < 1 ∧ 16 < z) ∨ (¬ z < 1 ∧ ¬ 16 < z ∧ x < 0) ∨ (¬ z < 1 ∧ ¬ 16 < z ∧ ¬ x < 0 ∧ 65535 < x) := by omega
  clear h hmay
  go_enter Tryz.func80, Tryz.ntmps80
  go_wp2_with fail
  refine (hma _).mono ?_
  rintro e w1 ⟨rfl, hb1⟩
  have hbw1 : Below w.heap.size w w1 := ((Below.refl _ _).alloc (Nat.le_refl _) _).trans (hb1.mono (by simp))
  clear hma hb1
  rcases hor with h1 | ⟨h1, h2⟩ | ⟨h1, h2, h3⟩ | ⟨h1, h2, h3, h4⟩
  all_goals
    go_wp2_with fail
    go_ret2
    exact ⟨rfl, hbw1⟩

set_option maxRecDepth 100000 in
set_option maxHeartbeats 4000000 in
theorem rmail_shape (K M O S z : Nat) (t : ByteArray) (x : Nat) (w : World) (hmay : mayB K M O S = true) (hz : 1 ≤ z ∧ z ≤ 16) (hx : x ≤ 65535) (ht : t.size ≤ 1125899906842624) (h : K * z < 3 ∨ (3 ≤ K * z ∧ 20 < partsN t (K * z - 2))) :
    Calls Tryz.prog 80 #[specV K M O S, .int .i64 (z : Int), .string t, .int .i64 (x : Int)] w fun e w' => e = .returned (.tuple #[.slice none 0 0, .int .i64 3]) ∧ Below w.heap.size w w' := by
  have hKK := mayB_true hmay
  have hK : 1 ≤ K ∧ K ≤ 20 := by omega
  have hma := fun W => may_below K M O S W
  rw [hmay] at hma
  have hN2 : K * z ≤ 320 := Nat.le_trans (Nat.mul_le_mul hK.2 hz.2) (by decide)
  have hN1 : 1 ≤ K * z := Nat.mul_pos (by omega) (by omega)
  have hmul : (K : Int) * (z : Int) = ((K * z : Nat) : Int) := by simp
  have hm1 : 1 ≤ (K : Int) * (z : Int) := by rw [hmul]; omega
  have hm2 : (K : Int) * (z : Int) ≤ 320 := by rw [hmul]; omega
  have hsp : (w.alloc (specB K M O S)).heap[w.heap.size]? = some (specB K M O S) := heap_alloc_new w _
  have hbA : Below w.heap.size w (w.alloc (specB K M O S)) := (Below.refl _ _).alloc (Nat.le_refl _) _
  have z1 : ¬ (z : Int) < 1 := by omega
  have z2 : ¬ (16 : Int) < (z : Int) := by omega
  have o1 : ¬ (x : Int) < 0 := by omega
  have o2 : ¬ (65535 : Int) < (x : Int) := by omega
  rcases h with h | ⟨h3, h⟩
  · have n1 : (K : Int) * (z : Int) - 2 < 1 := by rw [hmul]; omega
    clear hmul h hmay hKK
    go_enter Tryz.func80, Tryz.ntmps80
    go_wp2_with fail
    refine (hma _).mono ?_
    rintro e w1 ⟨rfl, hb1⟩
    have hs1 := block_on hsp hb1
    have hbw1 := hbA.trans (hb1.mono hbA.size)
    clear hsp hbA hb1 hma
    obtain ⟨c0, c1, c2, c3⟩ := spec_cells hs1
    go_wp2_with fail
    go_ret2
    exact ⟨rfl, hbw1⟩
  · obtain ⟨n, hn⟩ : ∃ n, n = K * z - 2 := ⟨_, rfl⟩
    have hmul2 : (K : Int) * (z : Int) - 2 = (n : Int) := by rw [hmul]; omega
    have n1 : ¬ (n : Int) < 1 := by omega
    have hpa := fun W => rparts_any t n W (by omega) ht
    rw [← hn] at h
    have p1 : (20 : Int) < (partsN t n : Int) := by omega
    have Hmul := hide hmul2
    clear hmul hmul2 h hmay hKK hn h3
    generalize partsN t n = c at *
    go_enter Tryz.func80, Tryz.ntmps80
    go_wp2_with fail
    refine (hma _).mono ?_
    rintro e w1 ⟨rfl, hb1⟩
    have hs1 := block_on hsp hb1
    have hbw1 := hbA.trans (hb1.mono hbA.size)
    clear hsp hbA hb1 hma
    obtain ⟨c0, c1, c2, c3⟩ := spec_cells hs1
    go_upto_region 7 with fail
    rw [Hmul.out]
    clear c0 c1 c2 c3
    go_wp2_with fail
    refine (hpa _).mono ?_
    rintro e W1 ⟨rfl, rfl⟩
    go_wp2_with fail
    go_ret2
    exact ⟨rfl, hbw1⟩

end Go.Proofs.YtnjaofkieajnlaaGreat

/- The statement's own mail: the program's Mail against the document's. -/
namespace Go.Proofs.YtnjaofkieajnlaaGreat
open Go.RowKit

theorem mailT_mailL (K M O S z : Nat) (t : ByteArray) (x : Nat) : mailL K M O S z t x = mailT K M O S z t x := rfl

theorem mailMay_ok {K M O S z : Nat} {t : ByteArray} {x : Nat} (h : MailMay K M O S z t x) : MailOk K M O S z t x :=
  ⟨h.spec, h.three, (partsN_le (by have := h.three; omega) (by omega)).2 h.size, h.order⟩

theorem mailT_le {K M O S z : Nat} {t : ByteArray} {x : Nat} (h : MailMay K M O S z t x) : (mailT K M O S z t x).length ≤ 800 := by
  rw [mailT_length]
  exact Nat.le_trans (Nat.mul_le_mul (mailMay_ok h).parts (show K + M ≤ 40 by have := h.spec.hK; have := h.spec.hM; omega)) (by decide)

set_option maxRecDepth 100000 in
set_option maxHeartbeats 4000000 in
theorem lawMail_ok (K M O S z : Nat) (t : ByteArray) (x : Nat) (w : World) (h : MailMay K M O S z t x) :
    Calls Tryz.prog 48 #[specV K M O S, .int .i64 (z : Int), .string t, .int .i64 (x : Int)] w fun e w' => ∃ v, e = .returned (.tuple #[v, .bool true]) ∧ w'.ownsRow w.heap.size 9 1 v (mailT K M O S z t x).length (textV (mailT K M O S z t x)) ∧ Below w.heap.size w w' := by
  have hs1 := fun W => mail_ok K M O S z t x W h
  have hts : t.size ≤ 1125899906842624 := by
    have h1 := h.size
    have h2 : K * z ≤ 320 := Nat.le_trans (Nat.mul_le_mul h.spec.hK.2 h.spec.hz.2) (by decide)
    omega
  have hs2 := fun W => rmail_ok K M O S z t x W (mailMay_ok h) hts
  have hL := mailT_le h
  rw [mailT_mailL] at hs2
  clear h hts
  generalize mailT K M O S z t x = L at *
  have hbA : Below w.heap.size w (w.alloc (specB K M O S)) := (Below.refl _ _).alloc (Nat.le_refl _) _
  have hsp : (w.alloc (specB K M O S)).heap[w.heap.size]? = some (specB K M O S) := heap_alloc_new w _
  go_enter Tryz.func48, Tryz.ntmps48
  go_wp2_with fail
  refine (hs1 _).mono ?_
  rintro e w1 ⟨v1, rfl, hown1, hb1⟩
  have hsp1 := block_on hsp hb1
  have hbw1 := hbA.trans (hb1.mono hbA.size)
  have hown1' := owns_low hown1 hbA.size
  clear hsp hb1 hs1 hown1 hbA
  obtain ⟨c0, c1, c2, c3⟩ := spec_cells hsp1
  go_wp2_with fail
  refine (hs2 _).mono ?_
  rintro e w2 ⟨v2, rfl, hown2, hb2⟩
  have hown1'' := owns_below hown1' hb2
  have hbw2 := hbw1.trans (hb2.mono hbw1.size)
  clear hsp1 hb2 hs2 hown1' hbw1 c0 c1 c2 c3
  have hst := sameTexts_yes v1 v2 L w2 (by omega) (owns_texts hown1'' rfl) (owns_texts hown2 rfl)
  go_wp2_with fail
  refine hst.mono ?_
  rintro e w3 ⟨rfl, hc3⟩
  have hb3 : Below w.heap.size w w3 := ((Chg.of_below hbw2 (fun _ => False)).trans hc3 (fun _ _ x => x)).below (fun _ _ x => x)
  have hown3 := owns_of_block (w' := w3) hown1'' (fun k hk => hc3.block k (hown1''.lt k hk).2 (fun f => f))
  clear hst hown1'' hown2 hbw2 hc3
  go_wp2_with fail
  go_ret2
  exact ⟨_, rfl, hown3, hb3⟩

set_option maxRecDepth 100000 in
set_option maxHeartbeats 4000000 in
theorem lawMail_err (K M O S z x n : Int) (t : ByteArray) (w : World) (hn : n = 1 ∨ n = 2 ∨ n = 3) (hs1 : ∀ W, Calls Tryz.prog 79 #[specV K M O S, .int .i64 z, .string t, .int .i64 x] W fun e w' => e = .returned (.tuple #[.slice none 0 0, .int .i64 n]) ∧ Below W.heap.size W w') (hs2 : ∀ W, Calls Tryz.prog 80 #[specV K M O S, .int .i64 z, .string t, .int .i64 x] W fun e w' => e = .returned (.tuple #[.slice none 0 0, .int .i64 n]) ∧ Below W.heap.size W w') :
    Calls Tryz.prog 48 #[specV K M O S, .int .i64 z, .string t, .int .i64 x] w fun e w' => e = .returned (.tuple #[.slice none 0 0, .bool true]) ∧ Below w.heap.size w w' := by
  have hbA : Below w.heap.size w (w.alloc (.cells #[.int .i64 K, .int .i64 M, .int .i64 O, .int .i64 S] 25)) := (Below.refl _ _).alloc (Nat.le_refl _) _
  have hsp : (w.alloc (.cells #[.int .i64 K, .int .i64 M, .int .i64 O, .int .i64 S] 25)).heap[w.heap.size]? = some (.cells #[.int .i64 K, .int .i64 M, .int .i64 O, .int .i64 S] 25 (0, 0)) := heap_alloc_new w _
  rcases hn with rfl | rfl | rfl
  all_goals
    go_enter Tryz.func48, Tryz.ntmps48
    go_wp2_with fail
    refine (hs1 _).mono ?_
    rintro e w1 ⟨rfl, hb1⟩
    have hsp1 := block_on hsp hb1
    have hbw1 := hbA.trans (hb1.mono hbA.size)
    clear hsp hb1 hs1 hbA
    obtain ⟨c0, c1, c2, c3⟩ := spec_cellsI hsp1
    go_wp2_with fail
    refine (hs2 _).mono ?_
    rintro e w2 ⟨rfl, hb2⟩
    have hbw2 := hbw1.trans (hb2.mono hbw1.size)
    clear hsp1 hb2 hs2 hbw1 c0 c1 c2 c3
    go_wp2_with fail
    go_ret2
    exact ⟨rfl, hbw2⟩

/-- What mail answers. -/
theorem lawMail_any (K M O S z x : Int) (t : ByteArray) (w : World) (ht : t.size ≤ 1125899906842624) :
    Calls Tryz.prog 48 #[specV K M O S, .int .i64 z, .string t, .int .i64 x] w fun e w' => ∃ v n L, e = .returned (.tuple #[v, .bool true]) ∧ w'.ownsRow w.heap.size 9 1 v n (textV L) ∧ n ≤ 800 ∧ n = L.length ∧ Below w.heap.size w w' := by
  have none_ : ∀ {n : Int}, (n = 1 ∨ n = 2 ∨ n = 3) → (∀ W, Calls Tryz.prog 108 #[specV K M O S, .int .i64 z, .string t, .int .i64 x] W fun e w' => e = .returned (.tuple #[.slice none 0 0, .int .i64 n]) ∧ Below W.heap.size W w') → (∀ W, Calls Tryz.prog 80 #[specV K M O S, .int .i64 z, .string t, .int .i64 x] W fun e w' => e = .returned (.tuple #[.slice none 0 0, .int .i64 n]) ∧ Below W.heap.size W w') →
      Calls Tryz.prog 48 #[specV K M O S, .int .i64 z, .string t, .int .i64 x] w fun e w' => ∃ v n L, e = .returned (.tuple #[v, .bool true]) ∧ w'.ownsRow w.heap.size 9 1 v n (textV L) ∧ n ≤ 800 ∧ n = L.length ∧ Below w.heap.size w w' := fun hn h1 h2 =>
    (lawMail_err K M O S z x _ t w hn (fun W => mail_err K M O S z x _ t W h1) h2).mono fun _ _ ⟨he, hb⟩ => ⟨_, 0, [], he, World.ownsRow_nil _ _ _ _, by omega, rfl, hb⟩
  cases hmay : mayB K M O S
  · exact none_ (Or.inl rfl) (fun W => lmail_bad K M O S z x t W hmay) (fun W => rmail_bad K M O S z x t W hmay)
  · by_cases hz : z < 1 ∨ 16 < z ∨ x < 0 ∨ 65535 < x
    · exact none_ (Or.inr (Or.inl rfl)) (fun W => lmail_arg K M O S z x t W hmay hz) (fun W => rmail_arg K M O S z x t W hmay hz)
    · obtain ⟨k, m, q, s, rfl, rfl, rfl, rfl, hK, hM, hO, hS⟩ := may_nats hmay
      obtain ⟨zn, rfl⟩ : ∃ zn : Nat, z = (zn : Int) := ⟨z.toNat, by omega⟩
      obtain ⟨xn, rfl⟩ : ∃ xn : Nat, x = (xn : Int) := ⟨x.toNat, by omega⟩
      have hz' : 1 ≤ zn ∧ zn ≤ 16 := by omega
      have hx' : xn ≤ 65535 := by omega
      by_cases h3 : 3 ≤ k * zn
      · by_cases hsz : t.size ≤ 20 * (k * zn - 2)
        · have hm : MailMay k m q s zn t xn := ⟨⟨hK, hM, hO, hS, hz'⟩, h3, hsz, hx'⟩
          exact (lawMail_ok k m q s zn t xn w hm).mono fun _ _ ⟨v, he, hown, hb⟩ => ⟨v, _, _, he, hown, mailT_le hm, rfl, hb⟩
        · exact none_ (Or.inr (Or.inr rfl)) (fun W => lmail_shape k m q s zn t xn W hmay hz' hx' (Or.inr ⟨h3, by omega⟩)) (fun W => rmail_shape k m q s zn t xn W hmay hz' hx' ht (Or.inr ⟨h3, by
            have := (partsN_le (t := t) (n := k * zn - 2) (c := 20) (by omega) (by omega))
            omega⟩))
      · exact none_ (Or.inr (Or.inr rfl)) (fun W => lmail_shape k m q s zn t xn W hmay hz' hx' (Or.inl (by omega))) (fun W => rmail_shape k m q s zn t xn W hmay hz' hx' ht (Or.inl (by omega)))

end Go.Proofs.YtnjaofkieajnlaaGreat

/- Fitted: for every specification and every list of texts the program's Fits answers as the document asks, and leaves what is handed in alone. -/
namespace Go.Proofs.YtnjaofkieajnlaaGreat
open Go.RowKit

set_option maxRecDepth 100000 in
set_option maxHeartbeats 1000000 in
theorem fits_bad (K M O S : Int) (v : Value) (w : World) (hmay : mayB K M O S = false) :
    Calls Tryz.prog 81 #[specV K M O S, v] w fun e w' => e = .returned (.tuple #[.bool false, .int .i64 1]) ∧ Below w.heap.size w w' := by
  go_enter Tryz.func81, Tryz.ntmps81
  go_wp2_with fail
  refine (wfits_bad K M O S v _ hmay).mono ?_
  rintro e w1 ⟨rfl, hb⟩
  have hb1 : Below w.heap.size w w1 := ((Below.refl _ _).alloc (Nat.le_refl _) _).trans (hb.mono (by simp))
  clear hb
  go_wp2
  go_ret2
  exact ⟨rfl, hb1⟩

set_option maxRecDepth 100000 in
set_option maxHeartbeats 1000000 in
theorem fits_shape (K M O S : Nat) (v : Value) (l : List ByteArray) (w : World) (hK : 1 ≤ K ∧ K ≤ 20) (hM : 1 ≤ M ∧ M ≤ 20) (hO : 1 ≤ O ∧ O ≤ M) (hS : S ≤ 65535) (hl : l.length ≤ 8796093022208) (hsh : ¬ Shaped l (K + M)) (ht : TextsAt w v l) :
    Calls Tryz.prog 81 #[specV K M O S, v] w fun e w' => e = .returned (.tuple #[.bool false, .int .i64 3]) ∧ Below w.heap.size w w' := by
  have HT := hide ht
  have Hsh := hide hsh
  clear ht hsh
  go_enter Tryz.func81, Tryz.ntmps81
  go_wp2_with fail
  refine (wfits_shape K M O S v l _ hK hM hO hS hl Hsh.out (HT.out.on ((Below.refl _ _).alloc (Nat.le_refl _) _))).mono ?_
  rintro e w1 ⟨rfl, hb⟩
  have hb1 : Below w.heap.size w w1 := ((Below.refl _ _).alloc (Nat.le_refl _) _).trans (hb.mono (by simp))
  clear hb
  go_wp2
  go_ret2
  exact ⟨rfl, hb1⟩

set_option maxRecDepth 100000 in
set_option maxHeartbeats 1000000 in
theorem fits_ok (K M O S : Nat) (v : Value) (l : List ByteArray) (w : World) (hK : 1 ≤ K ∧ K ≤ 20) (hM : 1 ≤ M ∧ M ≤ 20) (hO : 1 ≤ O ∧ O ≤ M) (hS : S ≤ 65535) (hsh : Shaped l (K + M)) (ht : TextsAt w v l) :
    Calls Tryz.prog 81 #[specV K M O S, v] w fun e w' => Tells2 (Fit K M O S l (l.getD 0 ByteArray.empty).size) e ∧ Below w.heap.size w w' := by
  have HT := hide ht
  have Hsh := hide hsh
  clear ht hsh
  go_enter Tryz.func81, Tryz.ntmps81
  go_wp2_with fail
  refine (wfits_ok K M O S v l _ hK hM hO hS Hsh.out (HT.out.on ((Below.refl _ _).alloc (Nat.le_refl _) _))).mono ?_
  rintro e w1 ⟨⟨b, rfl, hy, hn⟩, hb⟩
  have hb1 : Below w.heap.size w w1 := ((Below.refl _ _).alloc (Nat.le_refl _) _).trans (hb.mono (by simp))
  have Hy := hide hy
  have Hn := hide hn
  clear hb hy hn
  go_wp2
  go_ret2
  exact ⟨⟨b, rfl, Hy.out, Hn.out⟩, hb1⟩

set_option maxRecDepth 100000 in
set_option maxHeartbeats 2000000 in
theorem fitted_bad (K M O S : Int) (v : Value) (l : List ByteArray) (w : World) (hl : l.length ≤ 8796093022208) (hmay : mayB K M O S = false) (ht : TextsAt w v l) :
    Calls Tryz.prog 49 #[specV K M O S, v] w fun e w' => e = .returned (.bool true) ∧ Below w.heap.size w w' := by
  have HT := hide ht
  clear ht
  go_enter Tryz.func49, Tryz.ntmps49
  go_wp2_with fail
  refine (handed_any v l _ hl (HT.out.on ((Below.refl _ _).alloc (Nat.le_refl _) _))).mono ?_
  rintro e w1 ⟨g, rfl, hh, hg, hb⟩
  have hs1 := block_on (heap_alloc_new w _) hb
  have hb1 : Below w.heap.size w w1 := ((Below.refl _ _).alloc (Nat.le_refl _) _).trans (hb.mono (by simp))
  obtain ⟨c0, c1, c2, c3⟩ := spec_cellsI hs1
  clear hb hg
  go_wp2_with fail
  refine (fits_bad K M O S _ _ hmay).mono ?_
  rintro e w2 ⟨rfl, hb⟩
  have hs2 := block_on hs1 hb
  have hh2 := hh.on hb
  have hb2 := hb1.trans (hb.mono hb1.size)
  clear c0 c1 c2 c3 hs1 hb1 hb hh
  go_wp2_with fail
  refine (still_yes v l g _ hl hh2 (HT.out.on hb2)).mono ?_
  rintro e w3 ⟨rfl, hcg⟩
  have hb := hcg.below (fun _ _ x => x)
  have hs3 := block_on hs2 hb
  have hb3 := hb2.trans (hb.mono hb2.size)
  obtain ⟨c0, c1, c2, c3⟩ := spec_cellsI hs3
  clear hcg hb hs2 hb2 hh2
  go_wp2_with fail
  refine (may_below _ _ _ _ _).mono ?_
  rintro e w4 ⟨rfl, hb⟩
  rw [hmay]
  have hs4 := block_on hs3 hb
  have hb4 := hb3.trans (hb.mono hb3.size)
  clear c0 c1 c2 c3 hb hb3 hs3
  clear hs4
  go_wp2
  go_ret
  exact ⟨rfl, hb4⟩

set_option maxRecDepth 100000 in
set_option maxHeartbeats 2000000 in
theorem fitted_shape (K M O S : Nat) (v : Value) (l : List ByteArray) (w : World) (hK : 1 ≤ K ∧ K ≤ 20) (hM : 1 ≤ M ∧ M ≤ 20) (hO : 1 ≤ O ∧ O ≤ M) (hS : S ≤ 65535) (hl : l.length ≤ 8796093022208) (hsh : ¬ Shaped l (K + M)) (ht : TextsAt w v l) :
    Calls Tryz.prog 49 #[specV K M O S, v] w fun e w' => e = .returned (.bool true) ∧ Below w.heap.size w w' := by
  have hmay : mayB K M O S = true := by simp [mayB]; omega
  have Hsh := hide hsh
  clear hsh
  have HT := hide ht
  clear ht
  go_enter Tryz.func49, Tryz.ntmps49
  go_wp2_with fail
  refine (handed_any v l _ hl (HT.out.on ((Below.refl _ _).alloc (Nat.le_refl _) _))).mono ?_
  rintro e w1 ⟨g, rfl, hh, hg, hb⟩
  have hs1 := block_on (heap_alloc_new w _) hb
  have hb1 : Below w.heap.size w w1 := ((Below.refl _ _).alloc (Nat.le_refl _) _).trans (hb.mono (by simp))
  obtain ⟨c0, c1, c2, c3⟩ := spec_cellsI hs1
  clear hb hg
  go_wp2_with fail
  refine (fits_shape K M O S _ l _ hK hM hO hS hl Hsh.out hh.texts).mono ?_
  rintro e w2 ⟨rfl, hb⟩
  have hs2 := block_on hs1 hb
  have hh2 := hh.on hb
  have hb2 := hb1.trans (hb.mono hb1.size)
  clear c0 c1 c2 c3 hs1 hb1 hb hh
  go_wp2_with fail
  refine (still_yes v l g _ hl hh2 (HT.out.on hb2)).mono ?_
  rintro e w3 ⟨rfl, hcg⟩
  have hb := hcg.below (fun _ _ x => x)
  have hs3 := block_on hs2 hb
  have hb3 := hb2.trans (hb.mono hb2.size)
  obtain ⟨c0, c1, c2, c3⟩ := spec_cellsI hs3
  clear hcg hb hs2 hb2 hh2
  go_wp2_with fail
  refine (may_below _ _ _ _ _).mono ?_
  rintro e w4 ⟨rfl, hb⟩
  rw [hmay]
  have hs4 := block_on hs3 hb
  have hb4 := hb3.trans (hb.mono hb3.size)
  clear c0 c1 c2 c3 hb hb3 hs3
  obtain ⟨c0, c1, c2, c3⟩ := spec_cellsI hs4
  go_wp2_with fail
  rw [show (K : Int) + (M : Int) = ((K + M : Nat) : Int) from by omega]
  refine (shaped_any v l (K + M) _ (by omega) hl (HT.out.on hb4)).mono ?_
  rintro e w5 ⟨⟨b, rfl, _, hno⟩, rfl⟩
  obtain rfl := hno Hsh.out
  go_wp2
  go_ret
  exact ⟨rfl, hb4⟩

set_option maxRecDepth 100000 in
set_option maxHeartbeats 2000000 in
theorem fitted_ok (K M O S : Nat) (v : Value) (l : List ByteArray) (w : World) (hK : 1 ≤ K ∧ K ≤ 20) (hM : 1 ≤ M ∧ M ≤ 20) (hO : 1 ≤ O ∧ O ≤ M) (hS : S ≤ 65535) (hl : l.length ≤ 8796093022208) (hsh : Shaped l (K + M)) (ht : TextsAt w v l) :
    Calls Tryz.prog 49 #[specV K M O S, v] w fun e w' => e = .returned (.bool true) ∧ Below w.heap.size w w' := by
  have hmay : mayB K M O S = true := by simp [mayB]; omega
  have Hsh := hide hsh
  clear hsh
  have HT := hide ht
  clear ht
  go_enter Tryz.func49, Tryz.ntmps49
  go_wp2_with fail
  refine (handed_any v l _ hl (HT.out.on ((Below.refl _ _).alloc (Nat.le_refl _) _))).mono ?_
  rintro e w1 ⟨g, rfl, hh, hg, hb⟩
  have hs1 := block_on (heap_alloc_new w _) hb
  have hb1 : Below w.heap.size w w1 := ((Below.refl _ _).alloc (Nat.le_refl _) _).trans (hb.mono (by simp))
  obtain ⟨c0, c1, c2, c3⟩ := spec_cellsI hs1
  clear hb hg
  go_wp2_with fail
  refine (fits_ok K M O S _ l _ hK hM hO hS Hsh.out hh.texts).mono ?_
  rintro e w2 ⟨⟨b, rfl, hy, hn⟩, hb⟩
  have Hy := hide hy
  have Hn := hide hn
  clear hy hn
  have hs2 := block_on hs1 hb
  have hh2 := hh.on hb
  have hb2 := hb1.trans (hb.mono hb1.size)
  clear c0 c1 c2 c3 hs1 hb1 hb hh
  go_wp2_with fail
  refine (still_yes v l g _ hl hh2 (HT.out.on hb2)).mono ?_
  rintro e w3 ⟨rfl, hcg⟩
  have hb := hcg.below (fun _ _ x => x)
  have hs3 := block_on hs2 hb
  have hb3 := hb2.trans (hb.mono hb2.size)
  obtain ⟨c0, c1, c2, c3⟩ := spec_cellsI hs3
  clear hcg hb hs2 hb2 hh2
  go_wp2_with fail
  refine (may_below _ _ _ _ _).mono ?_
  rintro e w4 ⟨rfl, hb⟩
  rw [hmay]
  have hs4 := block_on hs3 hb
  have hb4 := hb3.trans (hb.mono hb3.size)
  clear c0 c1 c2 c3 hb hb3 hs3
  obtain ⟨c0, c1, c2, c3⟩ := spec_cellsI hs4
  go_wp2_with fail
  rw [show (K : Int) + (M : Int) = ((K + M : Nat) : Int) from by omega]
  refine (shaped_any v l (K + M) _ (by omega) hl (HT.out.on hb4)).mono ?_
  rintro e w5 ⟨⟨b5, rfl, hyes, _⟩, rfl⟩
  obtain rfl := hyes Hsh.out
  go_wp2_with fail
  refine (rfits_ok K M O S v l _ hK hM hO hS Hsh.out (HT.out.on hb4)).mono ?_
  rintro e w6 ⟨⟨b6, rfl, hy6, hn6⟩, hb⟩
  have hbb : b = b6 := by
    by_cases hf : Fit K M O S l (l.getD 0 ByteArray.empty).size
    · rw [Hy.out hf, hy6 hf]
    · rw [Hn.out hf, hn6 hf]
  subst hbb
  have hb6 := hb4.trans (hb.mono hb4.size)
  clear c0 c1 c2 c3 hb hb4 hs4 hy6 hn6 hyes Hy Hn
  cases b
  · go_wp2
    go_ret
    exact ⟨rfl, hb6⟩
  · go_wp2
    go_ret
    exact ⟨rfl, hb6⟩

theorem fitted_any (K M O S : Int) (v : Value) (l : List ByteArray) (w : World) (hl : l.length ≤ 8796093022208) (ht : TextsAt w v l) :
    Calls Tryz.prog 49 #[specV K M O S, v] w fun e w' => e = .returned (.bool true) ∧ Below w.heap.size w w' := by
  cases hmay : mayB K M O S
  · exact fitted_bad K M O S v l w hl hmay ht
  · obtain ⟨k, m, o, s, rfl, rfl, rfl, rfl, hK, hM, hO, hS⟩ := may_nats hmay
    by_cases hsh : Shaped l (k + m)
    · exact fitted_ok k m o s v l w hK hM hO hS hl hsh ht
    · exact fitted_shape k m o s v l w hK hM hO hS hl hsh ht

end Go.Proofs.YtnjaofkieajnlaaGreat

/- The statement's own listed: a step that gives lists. -/
namespace Go.Proofs.YtnjaofkieajnlaaGreat
open Go.RowKit

/-- What a step that gives a list leaves. -/
def ListStep (wb : Nat) (f : Nat → Value) (col : Nat → Nat) (N : Nat) (w w' : World) : Prop := TookL w w' wb f col N ∨ Below w.heap.size w w'

/-- New blocks are of colour 15. -/
def colN (w : World) (col : Nat → Nat) (k : Nat) : Nat := if k < w.heap.size then col k else 15

theorem TookL.back {w w1 w' : World} {wb : Nat} {f : Nat → Value} {col : Nat → Nat} {N : Nat} (h : TookL w1 w' wb f (colN w col) N) (hb : Below w.heap.size w w1) : TookL w w' wb f col N := by
  obtain ⟨⟨f', col', s', h1, h2, h3, h4⟩, h5⟩ := h
  have hcn : ∀ k, k < w.heap.size → colN w col k = col k := fun k hk => by unfold colN; rw [if_pos hk]
  refine ⟨⟨f', col', s', h1, h2, h3, fun k hk hc => ?_⟩, (Chg.of_below hb _).trans h5 (fun k hk x => ?_)⟩
  · have := h4 k (Nat.lt_of_lt_of_le hk hb.size) (by rw [hcn k hk]; exact hc)
    rw [this, hcn k hk]
  · rcases x with x | x
    · exact Or.inl x
    · rw [hcn k hk] at x; exact Or.inr x

theorem rowOf_size (K M O S i : Nat) (hK : K ≤ 20) : 1 ≤ (rowOf K M O S i).length ∧ (rowOf K M O S i).length ≤ 1000 := by
  have := rowOf_len K M O S i
  rw [rowOf_head] at *
  simp at *
  omega

theorem ListsAt.after {w w1 : World} {f : Nat → Value} {col : Nat → Nat} {N : Nat} {s : LS} (h : ListsAt w f col N s) (hb : Below w.heap.size w w1) : ListsAt w1 f (colN w col) N s :=
  h.keep (fun k hk _ => hb.block k hk) (fun _ _ _ => rfl) (fun k hk _ => by unfold colN; rw [if_pos hk])

/-- Texts that are new, taken. -/
theorem takeNew (wb : Nat) (f : Nat → Value) (col : Nat → Nat) (N : Nat) (s : LS) (l : Value) (n : Nat) (L : List ByteArray) (w w1 : World) (hrow : w.rowIs wb 39 14 f) (h : ListsAt w f col N s) (hwb : col wb = 0) (hN : N ≤ 2900000) (hb : Below w.heap.size w w1) (hl : w1.ownsRow w.heap.size 9 1 l n (textV L)) (hn : n = L.length) (hL : n ≤ 1000) :
    Calls Tryz.prog 50 #[.pointer (some ⟨wb, 0, none⟩), l] w1 fun e w' => (∃ u, e = .returned u) ∧ TookL w w' wb f col N := by
  subst hn
  have hwl := hrow.lt
  refine (takeTexts_any wb f (colN w col) N s l L w1 (hrow.of_block (hb.block wb hwl)) (h.after hb) (by unfold colN; rw [if_pos hwl]; exact hwb) (owns_low hl (Nat.zero_le _)) hL (fun k hk => by unfold colN; rw [if_neg (by have := (hl.lt k hk).1; omega)]) hN).mono fun e w' ⟨h1, h2⟩ => ⟨h1, h2.back hb⟩

theorem takeNewR (wb : Nat) (f : Nat → Value) (col : Nat → Nat) (N : Nat) (s : LS) (l : Value) (M : Nat) (rv : Nat → Value) (L : Nat → List Nat) (w w1 : World) (hrow : w.rowIs wb 39 14 f) (h : ListsAt w f col N s) (hwb : col wb = 0) (hN : N ≤ 2900000) (hb : Below w.heap.size w w1) (hl : RowsOwn w1 l M rv L) (hM : M ≤ 20) (hL : ∀ i, i < M → 1 ≤ (L i).length ∧ (L i).length ≤ 1000) (hnew : ∀ k, fpRows l M rv k → w.heap.size ≤ k) :
    Calls Tryz.prog 45 #[.pointer (some ⟨wb, 0, none⟩), l] w1 fun e w' => (∃ u, e = .returned u) ∧ TookL w w' wb f col N := by
  have hwl := hrow.lt
  refine (takeRows_any wb f (colN w col) N s l M rv L w1 (hrow.of_block (hb.block wb hwl)) (h.after hb) (by unfold colN; rw [if_pos hwl]; exact hwb) hl hM hL (fun k hk => by unfold colN; rw [if_neg (by have := hnew k hk; omega)]) hN).mono fun e w' ⟨h1, h2⟩ => ⟨h1, h2.back hb⟩

/-- rows, for whatever specification. -/
theorem lawRows_any (K M O S : Int) (w : World) :
    Calls Tryz.prog 44 #[specV K M O S] w fun e w' => ∃ v m rv L, e = .returned (.tuple #[v, .bool true]) ∧ RowsOwn w' v m rv L ∧ m ≤ 20 ∧ (∀ i, i < m → 1 ≤ (L i).length ∧ (L i).length ≤ 1000) ∧ (∀ k, fpRows v m rv k → w.heap.size ≤ k) ∧ Below w.heap.size w w' := by
  cases hm : mayB K M O S
  · refine (lawRows_bad K M O S w hm).mono fun e w' ⟨h1, h2⟩ => ⟨.slice none 0 0, 0, fun _ => nilV, fun _ => [], h1, RowsOwn.nil _ _ _, by omega, fun i hi => absurd hi (Nat.not_lt_zero _), fun k hk => ?_, h2⟩
    rcases hk with hk | ⟨i, hi, _⟩
    · simp [Value.ownBlock] at hk
    · exact absurd hi (Nat.not_lt_zero _)
  · obtain ⟨k, m, o, s, rfl, rfl, rfl, rfl, hK, hM, hO, hS⟩ := may_nats hm
    refine (lawRows_ok k m o s w hK hM hO hS).mono fun e w' ⟨g, rv, h1, h2, h3, h4⟩ => ⟨_, m, rv, rowOf k m o s, h1, RowsOwn.of_at h2 (by omega), hM.2, fun i _ => rowOf_size k m o s i hK.2, fun x hx => ?_, h4⟩
    rcases hx with hx | ⟨i, hi, hx⟩
    · have : g = x := by simpa [Value.ownBlock] using hx
      omega
    · have := ((h2.own i hi).lt x hx).1
      omega

/-- spare, for whatever specification and texts. -/
theorem lawSpare_any (K M O S : Int) (v : Value) (l : List ByteArray) (w : World) (hl : l.length ≤ 8796093022208) (ht : TextsAt w v l) :
    Calls Tryz.prog 46 #[specV K M O S, v] w fun e w' => ∃ v' n L, e = .returned (.tuple #[v', .bool true]) ∧ w'.ownsRow w.heap.size 9 1 v' n (textV L) ∧ n ≤ 1000 ∧ n = L.length ∧ Below w.heap.size w w' := by
  have hnil : ∀ W : World, W.ownsRow w.heap.size 9 1 (.slice none 0 0) 0 (textV []) := fun W => World.ownsRow_nil _ _ _ _
  cases hm : mayB K M O S
  · exact (lawSpare_bad K M O S v l w hl hm ht).mono fun e w' ⟨h1, h2⟩ => ⟨.slice none 0 0, 0, [], h1, hnil _, by omega, rfl, h2⟩
  · obtain ⟨k, m, o, s, rfl, rfl, rfl, rfl, hK, hM, hO, hS⟩ := may_nats hm
    by_cases hsh : Shaped l k
    · refine (lawSpare_ok k m o s v l w hK hM hO hS hsh ht).mono fun e w' ⟨v', h1, h2, h3⟩ => ⟨v', m, _, h1, h2, by omega, ?_, h3⟩
      have := h2.1
      rw [textV_length] at this
      omega
    · exact (lawSpare_shape k m o s v l w hK hM hO hS hl hsh ht).mono fun e w' ⟨h1, h2⟩ => ⟨.slice none 0 0, 0, [], h1, hnil _, by omega, rfl, h2⟩

set_option maxRecDepth 100000 in
set_option maxHeartbeats 8000000 in
theorem listed_any (wb : Nat) (f : Nat → Value) (col : Nat → Nat) (N : Nat) (st : LS) (k a b c K M O S : Int) (s : ByteArray) (lv : Value) (l : List ByteArray) (w : World) (hrow : w.rowIs wb 39 14 f) (h : ListsAt w f col N st) (hwb : col wb = 0) (hN : N ≤ 2900000) (hs : s.size ≤ 1125899906842624) (hl : l.length ≤ 8796093022208) (ht : TextsAt w lv l) (hk : 13 ≤ k ∧ k ≤ 17) :
    Calls Tryz.prog 17 #[.pointer (some ⟨wb, 0, none⟩), .agg (opC k a b c K M O S s lv)] w fun e w' => e = .returned (.bool true) ∧ ListStep wb f col N w w' := by
  obtain ⟨ao, cap, rfl, hcap, hcells⟩ := ht
  have ht : TextsAt w (.slice ao l.length cap) l := ⟨ao, cap, rfl, hcap, hcells⟩
  have hk2 : k = 13 ∨ k = 14 ∨ k = 15 ∨ k = 16 ∨ k = 17 := by omega
  have hbA := (Below.refl w.heap.size w).alloc (Nat.le_refl _) (.cells (opC k a b c K M O S s (.slice ao l.length cap)) 29)
  have hop : (w.alloc (.cells (opC k a b c K M O S s (.slice ao l.length cap)) 29)).heap[w.heap.size]? = some (.cells (opC k a b c K M O S s (.slice ao l.length cap)) 29 (0, 0)) := heap_alloc_new w _
  obtain ⟨c0, c1, c2, c4, c5, c6, c7, c8⟩ := op_cells hop
  have c9 : (w.alloc (.cells (opC k a b c K M O S s (.slice ao l.length cap)) 29)).cell? ⟨w.heap.size, 9, none⟩ = some (.slice ao l.length cap) := by rw [cell_of_row _ _ _ _ _ _ hop]; rfl
  have HT : Hid (∀ w1 v n L, Below w.heap.size w w1 → w1.ownsRow w.heap.size 9 1 v n (textV L) → n = L.length → n ≤ 1000 → Calls Tryz.prog 50 #[.pointer (some ⟨wb, 0, none⟩), v] w1 fun e w' => (∃ u, e = .returned u) ∧ TookL w w' wb f col N) := hide (fun w1 v n L hb ho hn hL => takeNew wb f col N st v n L w w1 hrow h hwb hN hb ho hn hL)
  have HTR : Hid (∀ w1 v m rv L, Below w.heap.size w w1 → RowsOwn w1 v m rv L → m ≤ 20 → (∀ i, i < m → 1 ≤ (L i).length ∧ (L i).length ≤ 1000) → (∀ k, fpRows v m rv k → w.heap.size ≤ k) → Calls Tryz.prog 45 #[.pointer (some ⟨wb, 0, none⟩), v] w1 fun e w' => (∃ u, e = .returned u) ∧ TookL w w' wb f col N) := hide (fun w1 v m rv L hb ho hm hL hnew => takeNewR wb f col N st v m rv L w w1 hrow h hwb hN hb ho hm hL hnew)
  have HTA := hide (ht.on hbA)
  clear hrow h hwb hN ht hcells hcap
  have hW : (w.alloc (.cells (opC k a b c K M O S s (.slice ao l.length cap)) 29)).heap.size = w.heap.size + 1 := by simp
  have HB : Hid (∀ w1, Below (w.alloc (.cells (opC k a b c K M O S s (.slice ao l.length cap)) 29)).heap.size (w.alloc (.cells (opC k a b c K M O S s (.slice ao l.length cap)) 29)) w1 → Below w.heap.size w w1) := hide (fun w1 hb => hbA.trans (hb.mono hbA.size))
  have HR := hide (lawRows_any K M O S (w.alloc (.cells (opC k a b c K M O S s (.slice ao l.length cap)) 29)))
  have HSP := hide (lawSpare_any K M O S (.slice ao l.length cap) l _ hl HTA.out)
  have HSE := hide (lawSend_any K M O S a s (w.alloc (.cells (opC k a b c K M O S s (.slice ao l.length cap)) 29)) (by unfold maxLen; omega))
  have HMA := hide (lawMail_any K M O S a b s (w.alloc (.cells (opC k a b c K M O S s (.slice ao l.length cap)) 29)) hs)
  have HFI := hide (fitted_any K M O S (.slice ao l.length cap) l _ hl HTA.out)
  rw [hW] at HR HSP HSE HMA HFI HB
  clear hop HTA hbA hW
  go_enter Tryz.func17, Tryz.ntmps17
  rcases hk2 with rfl | rfl | rfl | rfl | rfl
  · go_wp2_with fail
    refine HR.out.mono ?_
    rintro e w1 ⟨v, m, rv, L, rfl, ho, hm, hL, hnew, hb⟩
    have htk := HTR.out w1 v m rv L (HB.out w1 hb) ho hm hL (fun k hk => by have := hnew k hk; omega)
    clear HR HSP HSE HMA HFI HT HTR HB ho hL hnew hb c0 c1 c2 c4 c5 c6 c7 c8 c9
    go_wp2_with fail
    refine htk.mono ?_
    rintro e w2 ⟨⟨u, rfl⟩, hto⟩
    clear htk
    go_wp2_with fail
    go_ret
    exact ⟨rfl, Or.inl hto⟩
  · go_wp2_with fail
    refine HSP.out.mono ?_
    rintro e w1 ⟨v, m, L, rfl, ho, hm, hL, hb⟩
    have htk := HT.out w1 v m L (HB.out w1 hb) (owns_low ho (by omega)) hL (by omega)
    clear HR HSP HSE HMA HFI HT HTR HB ho hL hb c0 c1 c2 c4 c5 c6 c7 c8 c9
    go_wp2_with fail
    refine htk.mono ?_
    rintro e w2 ⟨⟨u, rfl⟩, hto⟩
    clear htk
    go_wp2_with fail
    go_ret
    exact ⟨rfl, Or.inl hto⟩
  · go_wp2_with fail
    refine HSE.out.mono ?_
    rintro e w1 ⟨v, m, L, rfl, ho, hm, hL, hb⟩
    have htk := HT.out w1 v m L (HB.out w1 hb) (owns_low ho (by omega)) hL (by omega)
    clear HR HSP HSE HMA HFI HT HTR HB ho hL hb c0 c1 c2 c4 c5 c6 c7 c8 c9
    go_wp2_with fail
    refine htk.mono ?_
    rintro e w2 ⟨⟨u, rfl⟩, hto⟩
    clear htk
    go_wp2_with fail
    go_ret
    exact ⟨rfl, Or.inl hto⟩
  · go_wp2_with fail
    refine HMA.out.mono ?_
    rintro e w1 ⟨v, m, L, rfl, ho, hm, hL, hb⟩
    have htk := HT.out w1 v m L (HB.out w1 hb) (owns_low ho (by omega)) hL (by omega)
    clear HR HSP HSE HMA HFI HT HTR HB ho hL hb c0 c1 c2 c4 c5 c6 c7 c8 c9
    go_wp2_with fail
    refine htk.mono ?_
    rintro e w2 ⟨⟨u, rfl⟩, hto⟩
    clear htk
    go_wp2_with fail
    go_ret
    exact ⟨rfl, Or.inl hto⟩
  · go_wp2_with fail
    refine HFI.out.mono ?_
    rintro e w1 ⟨rfl, hb⟩
    have hend := HB.out w1 hb
    clear HR HSP HSE HMA HFI HT HTR HB hb c0 c1 c2 c4 c5 c6 c7 c8 c9
    go_wp2_with fail
    go_ret
    exact ⟨rfl, Or.inr hend⟩

end Go.Proofs.YtnjaofkieajnlaaGreat
