/- The statement's own mail: the program's Mail against the document's. -/
import Derived.Test.YtnjaofkieajnlaaLMail4
import Derived.Test.YtnjaofkieajnlaaMailE
import Derived.Test.YtnjaofkieajnlaaSent
namespace Go.Proofs.Ytnjaofkieajnlaa
open Go.RowKit

theorem mailT_mailL (K M O S z : Nat) (t : ByteArray) (x : Nat) : mailL K M O S z t x = mailT K M O S z t x := rfl

theorem mailMay_ok {K M O S z : Nat} {t : ByteArray} {x : Nat} (h : MailMay K M O S z t x) : MailOk K M O S z t x :=
  ⟨h.spec, h.three, (partsN_le (by have := h.three; omega) (by omega)).2 h.size, h.order⟩

theorem mailT_le {K M O S z : Nat} {t : ByteArray} {x : Nat} (h : MailMay K M O S z t x) : (mailT K M O S z t x).length ≤ 800 := by
  rw [mailT_length]
  exact Nat.le_trans (Nat.mul_le_mul (mailMay_ok h).parts (show K + M ≤ 40 by have := h.spec.hK; have := h.spec.hM; omega)) (by decide)

set_option maxRecDepth 100000 in
set_option maxHeartbeats 4000000 in
theorem lawMail_ok (K M O S z : Nat) (t : ByteArray) (x : Nat) (w : World) (h : MailMay K M O S z t x) :
    Calls Try.prog 20 #[specV K M O S, .int .i64 (z : Int), .string t, .int .i64 (x : Int)] w fun e w' => ∃ v, e = .returned (.tuple #[v, .bool true]) ∧ w'.ownsRow w.heap.size 9 1 v (mailT K M O S z t x).length (textV (mailT K M O S z t x)) ∧ Below w.heap.size w w' := by
  have hs1 := fun W => mail_ok K M O S z t x W h
  have hts : t.size ≤ 1125899906842624 := by
    have h1 := h.size
    have h2 : K * z ≤ 320 := Nat.le_trans (Nat.mul_le_mul h.spec.hK.2 h.spec.hz.2) (by decide)
    omega
  have hs2 := fun W => rmail_ok K M O S z t x W (mailMay_ok h) hts
  have hL := mailT_le h
  rw [mailT_mailL] at hs2
  clear h hts
  generalize mailT K M O S z t x = L at *
  have hbA : Below w.heap.size w (w.alloc (specB K M O S)) := (Below.refl _ _).alloc (Nat.le_refl _) _
  have hsp : (w.alloc (specB K M O S)).heap[w.heap.size]? = some (specB K M O S) := heap_alloc_new w _
  go_enter Try.func20, Try.ntmps20
  go_wp2_with fail
  refine (hs1 _).mono ?_
  rintro e w1 ⟨v1, rfl, hown1, hb1⟩
  have hsp1 := block_on hsp hb1
  have hbw1 := hbA.trans (hb1.mono hbA.size)
  have hown1' := owns_low hown1 hbA.size
  clear hsp hb1 hs1 hown1 hbA
  obtain ⟨c0, c1, c2, c3⟩ := spec_cells hsp1
  go_wp2_with fail
  refine (hs2 _).mono ?_
  rintro e w2 ⟨v2, rfl, hown2, hb2⟩
  have hown1'' := owns_below hown1' hb2
  have hbw2 := hbw1.trans (hb2.mono hbw1.size)
  clear hsp1 hb2 hs2 hown1' hbw1 c0 c1 c2 c3
  have hst := sameTexts_yes v1 v2 L w2 (by omega) (owns_texts hown1'' rfl) (owns_texts hown2 rfl)
  go_wp2_with fail
  refine hst.mono ?_
  rintro e w3 ⟨rfl, hc3⟩
  have hb3 : Below w.heap.size w w3 := ((Chg.of_below hbw2 (fun _ => False)).trans hc3 (fun _ _ x => x)).below (fun _ _ x => x)
  have hown3 := owns_of_block (w' := w3) hown1'' (fun k hk => hc3.block k (hown1''.lt k hk).2 (fun f => f))
  clear hst hown1'' hown2 hbw2 hc3
  go_wp2_with fail
  go_ret2
  exact ⟨_, rfl, hown3, hb3⟩

set_option maxRecDepth 100000 in
set_option maxHeartbeats 4000000 in
theorem lawMail_err (K M O S z x n : Int) (t : ByteArray) (w : World) (hn : n = 1 ∨ n = 2 ∨ n = 3) (hs1 : ∀ W, Calls Try.prog 43 #[specV K M O S, .int .i64 z, .string t, .int .i64 x] W fun e w' => e = .returned (.tuple #[.slice none 0 0, .int .i64 n]) ∧ Below W.heap.size W w') (hs2 : ∀ W, Calls Try.prog 44 #[specV K M O S, .int .i64 z, .string t, .int .i64 x] W fun e w' => e = .returned (.tuple #[.slice none 0 0, .int .i64 n]) ∧ Below W.heap.size W w') :
    Calls Try.prog 20 #[specV K M O S, .int .i64 z, .string t, .int .i64 x] w fun e w' => e = .returned (.tuple #[.slice none 0 0, .bool true]) ∧ Below w.heap.size w w' := by
  have hbA : Below w.heap.size w (w.alloc (.cells #[.int .i64 K, .int .i64 M, .int .i64 O, .int .i64 S] 23)) := (Below.refl _ _).alloc (Nat.le_refl _) _
  have hsp : (w.alloc (.cells #[.int .i64 K, .int .i64 M, .int .i64 O, .int .i64 S] 23)).heap[w.heap.size]? = some (.cells #[.int .i64 K, .int .i64 M, .int .i64 O, .int .i64 S] 23 (0, 0)) := heap_alloc_new w _
  rcases hn with rfl | rfl | rfl
  all_goals
    go_enter Try.func20, Try.ntmps20
    go_wp2_with fail
    refine (hs1 _).mono ?_
    rintro e w1 ⟨rfl, hb1⟩
    have hsp1 := block_on hsp hb1
    have hbw1 := hbA.trans (hb1.mono hbA.size)
    clear hsp hb1 hs1 hbA
    obtain ⟨c0, c1, c2, c3⟩ := spec_cellsI hsp1
    go_wp2_with fail
    refine (hs2 _).mono ?_
    rintro e w2 ⟨rfl, hb2⟩
    have hbw2 := hbw1.trans (hb2.mono hbw1.size)
    clear hsp1 hb2 hs2 hbw1 c0 c1 c2 c3
    go_wp2_with fail
    go_ret2
    exact ⟨rfl, hbw2⟩

/-- What mail answers. -/
theorem lawMail_any (K M O S z x : Int) (t : ByteArray) (w : World) (ht : t.size ≤ 1125899906842624) :
    Calls Try.prog 20 #[specV K M O S, .int .i64 z, .string t, .int .i64 x] w fun e w' => ∃ v n L, e = .returned (.tuple #[v, .bool true]) ∧ w'.ownsRow w.heap.size 9 1 v n (textV L) ∧ n ≤ 800 ∧ n = L.length ∧ Below w.heap.size w w' := by
  have none_ : ∀ {n : Int}, (n = 1 ∨ n = 2 ∨ n = 3) → (∀ W, Calls Try.prog 64 #[specV K M O S, .int .i64 z, .string t, .int .i64 x] W fun e w' => e = .returned (.tuple #[.slice none 0 0, .int .i64 n]) ∧ Below W.heap.size W w') → (∀ W, Calls Try.prog 44 #[specV K M O S, .int .i64 z, .string t, .int .i64 x] W fun e w' => e = .returned (.tuple #[.slice none 0 0, .int .i64 n]) ∧ Below W.heap.size W w') →
      Calls Try.prog 20 #[specV K M O S, .int .i64 z, .string t, .int .i64 x] w fun e w' => ∃ v n L, e = .returned (.tuple #[v, .bool true]) ∧ w'.ownsRow w.heap.size 9 1 v n (textV L) ∧ n ≤ 800 ∧ n = L.length ∧ Below w.heap.size w w' := fun hn h1 h2 =>
    (lawMail_err K M O S z x _ t w hn (fun W => mail_err K M O S z x _ t W h1) h2).mono fun _ _ ⟨he, hb⟩ => ⟨_, 0, [], he, World.ownsRow_nil _ _ _ _, by omega, rfl, hb⟩
  cases hmay : mayB K M O S
  · exact none_ (Or.inl rfl) (fun W => lmail_bad K M O S z x t W hmay) (fun W => rmail_bad K M O S z x t W hmay)
  · by_cases hz : z < 1 ∨ 16 < z ∨ x < 0 ∨ 65535 < x
    · exact none_ (Or.inr (Or.inl rfl)) (fun W => lmail_arg K M O S z x t W hmay hz) (fun W => rmail_arg K M O S z x t W hmay hz)
    · obtain ⟨k, m, q, s, rfl, rfl, rfl, rfl, hK, hM, hO, hS⟩ := may_nats hmay
      obtain ⟨zn, rfl⟩ : ∃ zn : Nat, z = (zn : Int) := ⟨z.toNat, by omega⟩
      obtain ⟨xn, rfl⟩ : ∃ xn : Nat, x = (xn : Int) := ⟨x.toNat, by omega⟩
      have hz' : 1 ≤ zn ∧ zn ≤ 16 := by omega
      have hx' : xn ≤ 65535 := by omega
      by_cases h3 : 3 ≤ k * zn
      · by_cases hsz : t.size ≤ 20 * (k * zn - 2)
        · have hm : MailMay k m q s zn t xn := ⟨⟨hK, hM, hO, hS, hz'⟩, h3, hsz, hx'⟩
          exact (lawMail_ok k m q s zn t xn w hm).mono fun _ _ ⟨v, he, hown, hb⟩ => ⟨v, _, _, he, hown, mailT_le hm, rfl, hb⟩
        · exact none_ (Or.inr (Or.inr rfl)) (fun W => lmail_shape k m q s zn t xn W hmay hz' hx' (Or.inr ⟨h3, by omega⟩)) (fun W => rmail_shape k m q s zn t xn W hmay hz' hx' ht (Or.inr ⟨h3, by
            have := (partsN_le (t := t) (n := k * zn - 2) (c := 20) (by omega) (by omega))
            omega⟩))
      · exact none_ (Or.inr (Or.inr rfl)) (fun W => lmail_shape k m q s zn t xn W hmay hz' hx' (Or.inl (by omega))) (fun W => rmail_shape k m q s zn t xn W hmay hz' hx' ht (Or.inl (by omega)))

set_option maxRecDepth 100000 in
set_option maxHeartbeats 1000000 in
theorem mailed_any (K M O S z x : Int) (t : ByteArray) (w : World) (ht : t.size ≤ 1125899906842624) :
    Calls Try.prog 7 #[specV K M O S, .int .i64 z, .string t, .int .i64 x] w fun e w' => e = .returned (.bool true) ∧ Below w.heap.size w w' := by
  have hse := fun W => lawMail_any K M O S z x t W ht
  go_enter Try.func7, Try.ntmps7
  go_wp2_with fail
  refine (hse _).mono ?_
  rintro e w1 ⟨v, n, L, rfl, _, _, _, hb⟩
  have hb1 : Below w.heap.size w w1 := ((Below.refl _ _).alloc (Nat.le_refl _) _).trans (hb.mono (by simp))
  clear hb hse
  go_wp2_with fail
  go_ret
  exact ⟨rfl, hb1⟩

end Go.Proofs.Ytnjaofkieajnlaa
