/- The statement's own send: the program's Send against the document's. -/
import Derived.Test.YtnjaofkieajnlaaPSend
import Derived.Test.YtnjaofkieajnlaaHanded
namespace Go.Proofs.Ytnjaofkieajnlaa
open Go.RowKit

theorem packTo_len (K M O S z : Nat) (P : List ByteArray) (i : Nat) : i = (packTo K M O S z P i).length := (packTo_length K M O S z P i).symm

set_option maxRecDepth 100000 in
set_option maxHeartbeats 4000000 in
theorem lawSend_ok (K M O S z : Nat) (o : ByteArray) (w : World) (hK : 1 ≤ K ∧ K ≤ 20) (hM : 1 ≤ M ∧ M ≤ 20) (hO : 1 ≤ O ∧ O ≤ M) (hS : S ≤ 65535) (hz : 1 ≤ z ∧ z ≤ 16) (ho : o.size + 2 ≤ K * z) :
    Calls Try.prog 19 #[specV K M O S, .int .i64 (z : Int), .string o] w fun e w' => ∃ v, e = .returned (.tuple #[v, .bool true]) ∧ w'.ownsRow w.heap.size 9 1 v (K + M) (textV (packTo K M O S z (objWord K M O S z o) (K + M))) ∧ Below w.heap.size w w' := by
  have hs1 := fun W => send_ok K M O S z o W hK hM hO hS hz ho
  have hs2 := fun W => rsend_ok K M O S z o W hK hM hO hS hz ho
  have hL := packTo_len K M O S z (objWord K M O S z o) (K + M)
  generalize packTo K M O S z (objWord K M O S z o) (K + M) = L at *
  have hbA : Below w.heap.size w (w.alloc (specB K M O S)) := (Below.refl _ _).alloc (Nat.le_refl _) _
  have hsp : (w.alloc (specB K M O S)).heap[w.heap.size]? = some (specB K M O S) := heap_alloc_new w _
  go_enter Try.func19, Try.ntmps19
  go_wp2_with fail
  refine (hs1 _).mono ?_
  rintro e w1 ⟨v1, rfl, hown1, hb1⟩
  have hsp1 := block_on hsp hb1
  have hbw1 := hbA.trans (hb1.mono hbA.size)
  have hown1' := owns_low hown1 hbA.size
  clear hsp hb1 hs1 hown1 hbA
  obtain ⟨c0, c1, c2, c3⟩ := spec_cells hsp1
  go_wp2_with fail
  refine (hs2 _).mono ?_
  rintro e w2 ⟨v2, rfl, hown2, hb2⟩
  have hown1'' := owns_below hown1' hb2
  have hbw2 := hbw1.trans (hb2.mono hbw1.size)
  clear hsp1 hb2 hs2 hown1' hbw1 c0 c1 c2 c3
  have hst := sameTexts_yes v1 v2 L w2 (by omega) (owns_texts hown1'' hL) (owns_texts hown2 hL)
  go_wp2_with fail
  refine hst.mono ?_
  rintro e w3 ⟨rfl, hc3⟩
  have hb3 : Below w.heap.size w w3 := ((Chg.of_below hbw2 (fun _ => False)).trans hc3 (fun _ _ x => x)).below (fun _ _ x => x)
  have hown3 := owns_of_block (w' := w3) hown1'' (fun k hk => hc3.block k (hown1''.lt k hk).2 (fun f => f))
  clear hst hown1'' hown2 hbw2 hc3
  go_wp2_with fail
  go_ret2
  exact ⟨_, rfl, hown3, hb3⟩

set_option maxRecDepth 100000 in
set_option maxHeartbeats 4000000 in
theorem lawSend_err (K M O S z n : Int) (o : ByteArray) (w : World) (hn : n = 1 ∨ n = 2 ∨ n = 3) (hs1 : ∀ W, Calls Try.prog 41 #[specV K M O S, .int .i64 z, .string o] W fun e w' => e = .returned (.tuple #[.slice none 0 0, .int .i64 n]) ∧ Below W.heap.size W w') (hs2 : ∀ W, Calls Try.prog 42 #[specV K M O S, .int .i64 z, .string o] W fun e w' => e = .returned (.tuple #[.slice none 0 0, .int .i64 n]) ∧ Below W.heap.size W w') :
    Calls Try.prog 19 #[specV K M O S, .int .i64 z, .string o] w fun e w' => e = .returned (.tuple #[.slice none 0 0, .bool true]) ∧ Below w.heap.size w w' := by
  have hbA : Below w.heap.size w (w.alloc (.cells #[.int .i64 K, .int .i64 M, .int .i64 O, .int .i64 S] 23)) := (Below.refl _ _).alloc (Nat.le_refl _) _
  have hsp : (w.alloc (.cells #[.int .i64 K, .int .i64 M, .int .i64 O, .int .i64 S] 23)).heap[w.heap.size]? = some (.cells #[.int .i64 K, .int .i64 M, .int .i64 O, .int .i64 S] 23 (0, 0)) := heap_alloc_new w _
  rcases hn with rfl | rfl | rfl
  all_goals
    go_enter Try.func19, Try.ntmps19
    go_wp2_with fail
    refine (hs1 _).mono ?_
    rintro e w1 ⟨rfl, hb1⟩
    have hsp1 := block_on hsp hb1
    have hbw1 := hbA.trans (hb1.mono hbA.size)
    clear hsp hb1 hs1 hbA
    obtain ⟨c0, c1, c2, c3⟩ := spec_cellsI hsp1
    go_wp2_with fail
    refine (hs2 _).mono ?_
    rintro e w2 ⟨rfl, hb2⟩
    have hbw2 := hbw1.trans (hb2.mono hbw1.size)
    clear hsp1 hb2 hs2 hbw1 c0 c1 c2 c3
    go_wp2_with fail
    go_ret2
    exact ⟨rfl, hbw2⟩

/-- What send answers. -/
theorem lawSend_any (K M O S z : Int) (o : ByteArray) (w : World) (ho : o.size + 2 ≤ maxLen) :
    Calls Try.prog 19 #[specV K M O S, .int .i64 z, .string o] w fun e w' => ∃ v n L, e = .returned (.tuple #[v, .bool true]) ∧ w'.ownsRow w.heap.size 9 1 v n (textV L) ∧ n ≤ 40 ∧ n = L.length ∧ Below w.heap.size w w' := by
  have none_ : ∀ {n : Int}, (n = 1 ∨ n = 2 ∨ n = 3) → (∀ W, Calls Try.prog 61 #[specV K M O S, .int .i64 z, .string o] W fun e w' => e = .returned (.tuple #[.slice none 0 0, .int .i64 n]) ∧ Below W.heap.size W w') → (∀ W, Calls Try.prog 42 #[specV K M O S, .int .i64 z, .string o] W fun e w' => e = .returned (.tuple #[.slice none 0 0, .int .i64 n]) ∧ Below W.heap.size W w') →
      Calls Try.prog 19 #[specV K M O S, .int .i64 z, .string o] w fun e w' => ∃ v n L, e = .returned (.tuple #[v, .bool true]) ∧ w'.ownsRow w.heap.size 9 1 v n (textV L) ∧ n ≤ 40 ∧ n = L.length ∧ Below w.heap.size w w' := fun hn h1 h2 =>
    (lawSend_err K M O S z _ o w hn (fun W => send_err K M O S z _ o W h1) h2).mono fun _ _ ⟨he, hb⟩ => ⟨_, 0, [], he, World.ownsRow_nil _ _ _ _, by omega, rfl, hb⟩
  cases hmay : mayB K M O S
  · exact none_ (Or.inl rfl) (fun W => osend_bad K M O S z o W hmay) (fun W => rsend_bad K M O S z o W hmay)
  · by_cases hz : 1 ≤ z ∧ z ≤ 16
    · obtain ⟨k, m, q, s, rfl, rfl, rfl, rfl, hK, hM, hO, hS⟩ := may_nats hmay
      obtain ⟨zn, rfl⟩ : ∃ zn : Nat, z = (zn : Int) := ⟨z.toNat, by omega⟩
      have hz' : 1 ≤ zn ∧ zn ≤ 16 := by omega
      by_cases hsz : o.size + 2 ≤ k * zn
      · exact (lawSend_ok k m q s zn o w hK hM hO hS hz' hsz).mono fun _ _ ⟨v, he, hown, hb⟩ => ⟨v, _, _, he, hown, by omega, packTo_len _ _ _ _ _ _ _, hb⟩
      · exact none_ (Or.inr (Or.inr rfl)) (fun W => osend_shape k m q s zn o W hmay hz' (by omega)) (fun W => rsend_shape k m q s zn o W hmay hz' (by omega) ho)
    · have hz' : z < 1 ∨ (1 ≤ z ∧ 16 < z) := by omega
      exact none_ (Or.inr (Or.inl rfl)) (fun W => osend_arg K M O S z o W hmay hz') (fun W => rsend_arg K M O S z o W hmay hz')

set_option maxRecDepth 100000 in
set_option maxHeartbeats 1000000 in
theorem sent_any (K M O S z : Int) (o : ByteArray) (w : World) (ho : o.size + 2 ≤ maxLen) :
    Calls Try.prog 6 #[specV K M O S, .int .i64 z, .string o] w fun e w' => e = .returned (.bool true) ∧ Below w.heap.size w w' := by
  have hse := fun W => lawSend_any K M O S z o W ho
  go_enter Try.func6, Try.ntmps6
  go_wp2_with fail
  refine (hse _).mono ?_
  rintro e w1 ⟨v, n, L, rfl, _, _, _, hb⟩
  have hb1 : Below w.heap.size w w1 := ((Below.refl _ _).alloc (Nat.le_refl _) _).trans (hb.mono (by simp))
  clear hb hse
  go_wp2_with fail
  go_ret
  exact ⟨rfl, hb1⟩

end Go.Proofs.Ytnjaofkieajnlaa
