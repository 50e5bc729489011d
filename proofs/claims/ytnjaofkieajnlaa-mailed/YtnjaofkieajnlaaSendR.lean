/- The document's own Send. -/
import Derived.Test.YtnjaofkieajnlaaDataB
import Derived.Test.YtnjaofkieajnlaaRWord
import Derived.Test.YtnjaofkieajnlaaKeep
namespace Go.Proofs.Ytnjaofkieajnlaa
open Go.RowKit

/-- The packets of a word's first pieces. -/
def packTo (K M O S z : Nat) (P : List ByteArray) : Nat → List ByteArray
  | 0 => []
  | i + 1 => packTo K M O S z P i ++ [packB K M O S z i (P.getD i ByteArray.empty)]

theorem packTo_length (K M O S z : Nat) (P : List ByteArray) (i : Nat) : (packTo K M O S z P i).length = i := by
  induction i with
  | zero => rfl
  | succ i ih => show (packTo K M O S z P i ++ [_]).length = _; rw [List.length_append, ih]; rfl

theorem cutTo_size (t : ByteArray) (z j : Nat) (h : j * z ≤ t.size) : ∀ x ∈ cutTo t z j, x.size = z := by
  induction j with
  | zero => intro x hx; simp [cutTo] at hx
  | succ j ih =>
    intro x hx
    rw [Nat.succ_mul] at h
    rcases List.mem_append.1 (show x ∈ cutTo t z j ++ [t.extract (j * z) (j * z + z)] from hx) with hx | hx
    · exact ih (by omega) x hx
    · simp at hx; subst hx
      rw [ByteArray.size_extract]; omega

theorem objT_size (N : Nat) (o : ByteArray) (h : o.size + 2 ≤ N) : (objT N o).size = N := by
  unfold objT
  rw [ByteArray.size_append, ByteArray.size_append, zeroB_size]
  show 2 + o.size + (N - (2 + o.size)) = N
  omega

theorem shape_made {l : List ByteArray} {n z : Nat} (hl : l.length = n) (hn : 0 < n) (hs : ∀ x ∈ l, x.size = z) (hz : 1 ≤ z ∧ z ≤ 16) : Shaped l n ∧ (l.getD 0 ByteArray.empty).size = z := by
  have hget : ∀ k, k < l.length → (l.getD k ByteArray.empty).size = z := fun k hk => hs _ (by rw [List.getD_eq_getElem?_getD, List.getElem?_eq_getElem hk]; exact List.getElem_mem hk)
  exact ⟨⟨hl, fun k hk => by rw [hget k hk, hget 0 (by omega)]; omega⟩, hget 0 (by omega)⟩

/-- What is owned from a place on is owned from a lower one on. -/
theorem owns_low {w : World} {base base' : Nat} {e : TypeId} {size : Nat} {v : Value} {n : Nat} {xs : List Value} (h : w.ownsRow base e size v n xs) (hb : base' ≤ base) : w.ownsRow base' e size v n xs := by
  refine ⟨h.1, ?_⟩
  rcases h.2 with h2 | ⟨g, cap, cur, h1, h2, h3⟩
  · exact Or.inl h2
  · exact Or.inr ⟨g, cap, cur, h1, Nat.le_trans hb h2, h3⟩

/-- An object's word. -/
def objWord (K M O S z : Nat) (o : ByteArray) : List ByteArray := knownTo (cutTo (objT (K * z) o) z K) (rowOf K M O S) z M

set_option maxRecDepth 100000 in
set_option maxHeartbeats 8000000 in
theorem rsend_ok (K M O S z : Nat) (o : ByteArray) (w : World) (hK : 1 ≤ K ∧ K ≤ 20) (hM : 1 ≤ M ∧ M ≤ 20) (hO : 1 ≤ O ∧ O ≤ M) (hS : S ≤ 65535) (hz : 1 ≤ z ∧ z ≤ 16) (ho : o.size + 2 ≤ K * z) :
    Calls Try.prog 42 #[specV K M O S, .int .i64 (z : Int), .string o] w fun e w' => ∃ v, e = .returned (.tuple #[v, .int .i64 0]) ∧ w'.ownsRow w.heap.size 9 1 v (K + M) (textV (packTo K M O S z (objWord K M O S z o) (K + M))) ∧ Below w.heap.size w w' := by
  have hN2 : K * z ≤ 320 := Nat.le_trans (Nat.mul_le_mul hK.2 hz.2) (by decide)
  have hmul : (K : Int) * (z : Int) = ((K * z : Nat) : Int) := by simp
  have hm1 : 0 ≤ (K : Int) * (z : Int) := by rw [hmul]; omega
  have hm2 : (K : Int) * (z : Int) ≤ 320 := by rw [hmul]; omega
  have hc1 : ¬ (K : Int) * (z : Int) < (o.size : Int) + 2 := by rw [hmul]; omega
  have hma := fun W => may_below K M O S W
  have hmay : mayB K M O S = true := by simp [mayB]; omega
  rw [hmay] at hma
  have hds := cutTo_size (objT (K * z) o) z K (by rw [objT_size _ _ ho]; exact Nat.le_refl _)
  have hdl := cutTo_length (objT (K * z) o) z K
  obtain ⟨hsh, h0s⟩ := shape_made hdl (by omega) hds hz
  have hda := fun W => data_any M O S K z (K * z) o W hz hK.2 rfl ho
  have hwo := fun v W h => rword_ok K M O S v (cutTo (objT (K * z) o) z K) W hK hM hO hS hsh h
  rw [h0s] at hwo
  have hPl : (objWord K M O S z o).length = K + M := by unfold objWord; rw [knownTo_length, hdl]
  have hPs : ∀ x ∈ objWord K M O S z o, x.size = z := knownTo_size hds M
  have hPe : knownTo (cutTo (objT (K * z) o) z K) (rowOf K M O S) z M = objWord K M O S z o := rfl
  rw [hPe] at hwo
  clear hPe h0s hsh hmul hds hmay
  generalize objWord K M O S z o = P at *
  generalize cutTo (objT (K * z) o) z K = D at *
  obtain ⟨j0, gi, gz0, gz1, gz2⟩ := info_parts Try.infoText
  have hsp : (w.alloc (specB K M O S)).heap[w.heap.size]? = some (specB K M O S) := heap_alloc_new w _
  have hbA : Below w.heap.size w (w.alloc (specB K M O S)) := (Below.refl _ _).alloc (Nat.le_refl _) _
  go_enter Try.func42, Try.ntmps42
  go_wp2_with fail
  refine (hma _).mono ?_
  rintro e w1 ⟨rfl, hb1⟩
  have hs1 := block_on hsp hb1
  have hbw1 := hbA.trans (hb1.mono hbA.size)
  clear hsp hbA hb1 hma
  obtain ⟨c0, c1, c2, c3⟩ := spec_cells hs1
  have z1 : ¬ (z : Int) < 1 := by omega
  have z2 : ¬ (16 : Int) < (z : Int) := by omega
  go_wp2_with fail
  go_region_held3 (fun w' => w'.cell? ⟨w.heap.size, 0, none⟩ = some (.int .i64 (K : Int)) ∧ w'.cell? ⟨w.heap.size, 1, none⟩ = some (.int .i64 (M : Int)) ∧ w'.cell? ⟨w.heap.size, 2, none⟩ = some (.int .i64 (O : Int)) ∧ w'.cell? ⟨w.heap.size, 3, none⟩ = some (.int .i64 (S : Int)))
    (first | (exact ⟨d0, d1, d2, d3⟩) | (exact ⟨e0, e1, e2, e3⟩) | go_keep)
    (first
      | (go_at_call 62; refine (hda _).mono ?_; rintro e w2 ⟨v2, rfl, hown2, hb2⟩; obtain ⟨d0, d1, d2, d3⟩ := spec_cells (block_on (w := w1.drew) hs1 hb2))
      | (go_at_call 36; refine (hwo _ _ (owns_texts hown2 hdl.symm)).mono ?_; rintro e w3 ⟨v3, rfl, hown3, hb3⟩; obtain ⟨g, cap, rfl, hg, hgl⟩ := hown3.form (by omega); obtain ⟨e0, e1, e2, e3⟩ := spec_cells (block_on (block_on (w := w1.drew) hs1 hb2) hb3)))
  have hs3 : w3.heap[w.heap.size]? = some (specB K M O S) := block_on (block_on (w := w1.drew) hs1 hb2) hb3
  have hb12 : Below w.heap.size w w2 := hbw1.drew.trans (Below.mono hb2 hbw1.size)
  have hbw3 : Below w.heap.size w w3 := hb12.trans (hb3.mono hb12.size)
  have htx := owns_texts hown3 hPl.symm
  clear d0 d1 d2 d3 e0 e1 e2 e3 hb2 hb3 hb12 hown2 c0 c1 c2 c3 hs1 hbw1 hda hwo hown3
  rename_i hheld
  clear hheld
  have hTc : ∀ k, k < K + M → w3.cell? ⟨g, k, none⟩ = some (.string (P.getD k ByteArray.empty)) := by
    obtain ⟨ao, cap', hv', _, hT⟩ := htx
    injection hv' with hv1 hv2 hv3
    intro k hk
    obtain ⟨q, o1, hq1, hq2, hq3⟩ := hT k (by omega)
    rw [hq1] at hv1
    injection hv1 with hv1
    injection hv1 with hb1 ho1
    subst hb1 ho1
    rw [Nat.zero_add] at hq3
    exact hq3
  have HT := hide hTc
  clear hTc htx
  have hw3 := hbw3.size
  go_wp2_with fail
  go_loopw [9, 41] (fun ov t wr => ∃ i : Nat, i ≤ K + M ∧ t = .int .i64 i ∧ wr.ownsRow w3.heap.size 9 1 ov i (textV (packTo K M O S z P i)) ∧ Below w3.heap.size w3 wr) (fun _ t _ => K + M - (intOf t).toNat)
  case atStart => exact ⟨0, Nat.zero_le _, rfl, World.ownsRow_nil _ _ _ _, Below.refl _ _⟩
  case round =>
    obtain ⟨i, hiM, rfl, hown, hbr⟩ := hrel
    have hwr := hbr.size
    by_cases hlt : i < K + M
    · have hcl : wr.cell? ⟨g, i, none⟩ = some (.string (P.getD i ByteArray.empty)) := by
        rw [← HT.out i hlt]; exact hbr.cell hgl
      have hpm : P.getD i ByteArray.empty ∈ P := by
        rw [List.getD_eq_getElem?_getD, List.getElem?_eq_getElem (by omega)]; exact List.getElem_mem _
      have hps := hPs _ hpm
      have hpk : packTo K M O S z P (i + 1) = packTo K M O S z P i ++ [packB K M O S z i (P.getD i ByteArray.empty)] := rfl
      have Hpk := hide hpk
      clear hpk hpm
      generalize P.getD i ByteArray.empty = p at *
      obtain ⟨c0, c1, c2, c3⟩ := spec_cells (block_on hs3 hbr)
      go_wp2_with fail
      refine (packet_any K M O S z i p wr hK.2 hM.2 (by omega) hS (by omega) (by omega) (by omega)).mono ?_
      rintro e w4 ⟨rfl, hb4⟩
      have hown4 := owns_below hown hb4
      have hbr4 := hbr.trans (hb4.mono hbr.size)
      have hw4 := hbr4.size
      clear hb4 hown hbr c0 c1 c2 c3 hcl
      generalize packB K M O S z i p = pk at *
      go_wp2_with (at_builtin; refine wpList_append_lies _ rfl (.tmp 51) (.tmp 53) 28 rfl w3.heap.size 9 j0 (.string ByteArray.empty) 1 16 Try.underlying28 gi gz0 gz1 gz2 rfl (by decide) _ _ _ rfl (hown4.alloc _) ⟨w4.heap.size, 0, none⟩ 1 1 [.string pk] rfl rfl (one_news _ _ _) (one_oneCell rfl) (by decide) (by unfold maxLen; omega) (by omega) (by simp; omega) (w4.heap.size + 1) (by simp) ?_)
      intro g5 cap5 w5 hown5 hgr5 hat5 hlt5
      have hb5 : Below w3.heap.size w3 w5 := hbr4.grown (grownBy_of_alloc hgr5) hbr4.size (fun k e => (hown4.lt k e).1)
      clear hown4 hbr4 hgr5 hat5
      go_wp2_with fail
      go_roundw
      case rel => exact ⟨i + 1, by omega, by go_num, by rw [Hpk.out, textV_append]; exact hown5, hb5⟩
      case measure => simp [intOf]; omega
    · have hii : i = K + M := by omega
      subst hii
      have hff := hbw3.trans (hbr.mono hw3)
      have hof := owns_low hown hw3
      have hcf : ¬ ((K + M : Nat) : Int) < (K : Int) + (M : Int) := by omega
      go_wp2_with fail
      go_ret2
      exact ⟨_, rfl, hof, hff⟩

end Go.Proofs.Ytnjaofkieajnlaa
