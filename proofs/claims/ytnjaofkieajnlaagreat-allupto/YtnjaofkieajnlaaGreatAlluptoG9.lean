/- Texts of the proof, part 10. -/
import Derived.Test.YtnjaofkieajnlaaGreatAlluptoG0
import Derived.Test.YtnjaofkieajnlaaGreatAlluptoG7
import Derived.Test.YtnjaofkieajnlaaGreatAlluptoG8

/- Fits: the program's and the document's own. -/
namespace Go.Proofs.YtnjaofkieajnlaaGreat
open Go.RowKit

/-- In each row the pieces sum to noughts. -/
def Fit (K M O S : Nat) (l : List ByteArray) (size : Nat) : Prop := ∀ i, i < M → sumB l (rowOf K M O S i) size = zeroB size

/-- The answer tells whether p, with no error. -/
def Tells2 (p : Prop) (e : Ending) : Prop := ∃ b, e = .returned (.tuple #[.bool b, .int .i64 0]) ∧ (p → b = true) ∧ (¬ p → b = false)

theorem beq_bytes {a b : ByteArray} (h : a ≠ b) : (a.toList == b.toList) = false := by
  rw [ByteArray.toList_eq, ByteArray.toList_eq]
  apply beq_eq_false_iff_ne.2
  intro e
  apply h
  cases a; cases b
  congr
  exact Array.toList_inj.1 e

set_option maxRecDepth 100000 in
set_option maxHeartbeats 1000000 in
theorem wfits_bad (K M O S : Int) (v : Value) (w : World) (hmay : mayB K M O S = false) :
    Calls Tryz.prog 110 #[specV K M O S, v] w fun e w' => e = .returned (.tuple #[.bool false, .int .i64 1]) ∧ Below w.heap.size w w' := by
  go_enter Tryz.func110, Tryz.ntmps110
  go_wp2_with fail
  refine (wrows_bad K M O S _ hmay).mono ?_
  rintro e w1 ⟨rfl, hb⟩
  have hb1 : Below w.heap.size w w1 := ((Below.refl _ _).alloc (Nat.le_refl _) _).trans (hb.mono (by simp))
  clear hb
  go_wp2
  go_ret2
  exact ⟨rfl, hb1⟩

set_option maxRecDepth 100000 in
set_option maxHeartbeats 1000000 in
theorem wfits_shape (K M O S : Nat) (v : Value) (l : List ByteArray) (w : World) (hK : 1 ≤ K ∧ K ≤ 20) (hM : 1 ≤ M ∧ M ≤ 20) (hO : 1 ≤ O ∧ O ≤ M) (hS : S ≤ 65535) (hl : l.length ≤ 8796093022208) (hsh : ¬ Shaped l (K + M)) (ht : TextsAt w v l) :
    Calls Tryz.prog 110 #[specV K M O S, v] w fun e w' => e = .returned (.tuple #[.bool false, .int .i64 3]) ∧ Below w.heap.size w w' := by
  have HT := hide ht
  have Hsh := hide hsh
  clear ht hsh
  go_enter Tryz.func110, Tryz.ntmps110
  go_wp2_with fail
  refine (wrows_ok K M O S _ hK hM hO hS).mono ?_
  rintro e w1 ⟨g, rv, rfl, hr, hg, hb⟩
  have hs1 := block_on (heap_alloc_new w _) hb
  have hb1 : Below w.heap.size w w1 := ((Below.refl _ _).alloc (Nat.le_refl _) _).trans (hb.mono (by simp))
  obtain ⟨c0, c1, c2, c3⟩ := spec_cellsI hs1
  clear hb hr hg
  go_wp2_with fail
  rw [show (K : Int) + (M : Int) = ((K + M : Nat) : Int) from by omega]
  refine (sizeOf_any _ l (K + M) _ (by omega) (by omega) (HT.out.on hb1)).mono ?_
  rintro e w2 ⟨⟨r, rfl, _, hno⟩, rfl⟩
  obtain rfl := hno Hsh.out
  go_wp2
  go_ret2
  exact ⟨rfl, hb1⟩

set_option maxRecDepth 100000 in
set_option maxHeartbeats 2000000 in
theorem wfits_ok (K M O S : Nat) (v : Value) (l : List ByteArray) (w : World) (hK : 1 ≤ K ∧ K ≤ 20) (hM : 1 ≤ M ∧ M ≤ 20) (hO : 1 ≤ O ∧ O ≤ M) (hS : S ≤ 65535) (hsh : Shaped l (K + M)) (ht : TextsAt w v l) :
    Calls Tryz.prog 110 #[specV K M O S, v] w fun e w' => Tells2 (Fit K M O S l (l.getD 0 ByteArray.empty).size) e ∧ Below w.heap.size w w' := by
  have hlK := hsh.1
  have HT := hide ht
  have Hsh := hide hsh
  have Hl := hide hlK
  clear ht hsh hlK
  go_enter Tryz.func110, Tryz.ntmps110
  go_wp2_with fail
  refine (wrows_ok K M O S _ hK hM hO hS).mono ?_
  rintro e w1 ⟨g, rv, rfl, hr, hg, hb⟩
  have hs1 := block_on (heap_alloc_new w _) hb
  have hb1 : Below w.heap.size w w1 := ((Below.refl _ _).alloc (Nat.le_refl _) _).trans (hb.mono (by simp))
  obtain ⟨c0, c1, c2, c3⟩ := spec_cellsI hs1
  clear hb hg
  go_wp2_with fail
  rw [show (K : Int) + (M : Int) = ((K + M : Nat) : Int) from by omega]
  refine (sizeOf_any _ l (K + M) _ (by omega) (by rw [Hl.out]; omega) (HT.out.on hb1)).mono ?_
  rintro e w2 ⟨⟨r, rfl, hyes, _⟩, rfl⟩
  obtain ⟨hre, hr1, hr16⟩ := hyes Hsh.out
  have hr0 : ((r : Int) == 0) = false := by simp; omega
  have Hre := hide hre
  clear hyes hre
  go_wp2_with fail
  refine (sum_any (.slice none 0 0) (.slice none 0 0) [] [] r 0 _ (by simp) (fun j hj => by simp at hj) (by omega) (fun x hx => by simp at hx) (World.ownsRow_nil _ _ _ _) ⟨none, 0, rfl, Nat.le_refl _, fun k hk => by simp at hk⟩).mono ?_
  rintro e w3 ⟨rfl, hb3⟩
  have hb4 := hb1.trans (hb3.mono hb1.size)
  have hr3 := hr.below hb3
  rw [show sumB [] [] r = zeroB r from rfl]
  clear c0 c1 c2 c3 hs1 hb3 hr hb1
  go_wp2_with fail
  go_loopw [34] (fun t wr => ∃ i : Nat, i ≤ M ∧ t = .int .i64 i ∧ (∀ j, j < i → sumB l (rowOf K M O S j) r = zeroB r) ∧ Below w3.heap.size w3 wr) (fun t _ => M - (intOf t).toNat)
  case atStart => exact ⟨0, Nat.zero_le _, rfl, fun j hj => by omega, Below.refl _ _⟩
  case round =>
    obtain ⟨i, hiM, rfl, hall, hbel⟩ := hrel
    have Hall := hide hall
    clear hall
    have hbw := hb4.trans (hbel.mono hb4.size)
    by_cases hlt : i < M
    · have hrr := hr3.below hbel
      have hrc := hrr.cell hlt
      have hrl := rowOf_len K M O S i
      go_wp2_with fail
      refine (sum_any v (rv i) l (rowOf K M O S i) r _ _ (by omega) (fun j hj => by have := rowOf_lt K M O S i j hj; omega) (by omega) (fun x hx => ?hx) (hrr.own i hlt) (HT.out.on hbw)).mono ?_
      case hx => rw [Hre.out]; exact Hsh.out.sizes x hx
      rintro e w5 ⟨rfl, hb5⟩
      have hb6 := hbel.trans (hb5.mono hbel.size)
      generalize htt : sumB l (rowOf K M O S i) r = tt at *
      have Ht := hide htt
      clear htt hrr hrc hb5
      by_cases he : tt = zeroB r
      · subst he
        clear hbel hbw
        go_wp2
        go_roundw
        case rel =>
          refine ⟨i + 1, by omega, by go_num, fun j hj => ?_, hb6⟩
          by_cases e : j = i
          · subst e; exact Ht.out
          · exact Hall.out j (by omega)
        case measure => simp [intOf]; omega
      · have hneq := beq_bytes he
        have hno : ¬ Fit K M O S l (l.getD 0 ByteArray.empty).size := fun h => he (by rw [← Ht.out]; have := h i hlt; rw [← Hre.out] at this; exact this)
        have Hno := hide hno
        have hb7 := hb4.trans (hb6.mono hb4.size)
        clear he hno
        go_wp2
        go_ret2
        exact ⟨⟨false, rfl, fun h => absurd h Hno.out, fun _ => rfl⟩, hb7⟩
    · go_wp2
      go_ret2
      refine ⟨⟨true, rfl, fun _ => rfl, fun h => absurd (fun j hj => ?_) h⟩, hbw⟩
      rw [← Hre.out]
      exact Hall.out j (by omega)

set_option maxRecDepth 100000 in
set_option maxHeartbeats 2000000 in
theorem rfits_ok (K M O S : Nat) (v : Value) (l : List ByteArray) (w : World) (hK : 1 ≤ K ∧ K ≤ 20) (hM : 1 ≤ M ∧ M ≤ 20) (hO : 1 ≤ O ∧ O ≤ M) (hS : S ≤ 65535) (hsh : Shaped l (K + M)) (ht : TextsAt w v l) :
    Calls Tryz.prog 82 #[specV K M O S, v] w fun e w' => Tells (Fit K M O S l (l.getD 0 ByteArray.empty).size) e ∧ Below w.heap.size w w' := by
  have hlK := hsh.1
  have HT := hide ht
  have Hsh := hide hsh
  have hr1 := (hsh.2 0 (by omega)).2
  generalize hr : (l.getD 0 ByteArray.empty).size = r at *
  have Hr := hide hr
  clear ht hsh hr
  go_enter Tryz.func82, Tryz.ntmps82
  go_wp2_with fail
  refine (rrows_ok K M O S _ hK hM hO hS).mono ?_
  rintro e w1 ⟨g, rv, rfl, hr3, hg, hb⟩
  have hb1 : Below w.heap.size w w1 := ((Below.refl _ _).alloc (Nat.le_refl _) _).trans (hb.mono (by simp))
  clear hb hg
  go_wp2_with fail
  go_loopw [11] (fun t wr => ∃ i : Nat, i ≤ M ∧ t = .int .i64 i ∧ (∀ j, j < i → sumB l (rowOf K M O S j) r = zeroB r) ∧ Below w1.heap.size w1 wr) (fun t _ => M - (intOf t).toNat)
  case atStart => exact ⟨0, Nat.zero_le _, rfl, fun j hj => by omega, Below.refl _ _⟩
  case round =>
    obtain ⟨i, hiM, rfl, hall, hbel⟩ := hrel
    have Hall := hide hall
    clear hall
    have hbw := hb1.trans (hbel.mono hb1.size)
    by_cases hlt : i < M
    · have hrr := hr3.below hbel
      have hrc := hrr.cell hlt
      have hrl := rowOf_len K M O S i
      go_wp2_with fail
      refine (total_any v (rv i) l (rowOf K M O S i) r _ _ (by omega) (by omega) (by omega) (by omega) (fun x hx => ?hx) (fun j hj => by have := rowOf_lt K M O S i j hj; omega) (hrr.own i hlt) (HT.out.on hbw)).mono ?_
      case hx => rw [← Hr.out]; exact Hsh.out.sizes x hx
      rintro e w5 ⟨rfl, hb5⟩
      have hb6 := hbel.trans (hb5.mono hbel.size)
      have hts : (sumB l (rowOf K M O S i) r).size = r := sumB_size (fun x hx => by rw [← Hr.out]; exact Hsh.out.sizes x hx) _
      generalize htt : sumB l (rowOf K M O S i) r = tt at *
      have Ht := hide htt
      clear htt hrr hrc hb5
      go_wp2_with fail
      refine (noughts_any r _ (by omega)).mono ?_
      rintro e w6 ⟨rfl, rfl⟩
      by_cases he : tt = zeroB r
      · subst he
        clear hbel hbw hts
        go_wp2
        go_roundw
        case rel =>
          refine ⟨i + 1, by omega, by go_num, fun j hj => ?_, hb6⟩
          by_cases e : j = i
          · subst e; exact Ht.out
          · exact Hall.out j (by omega)
        case measure => simp [intOf]; omega
      · have hneq := beq_bytes he
        have hno : ¬ Fit K M O S l r := fun h => he (by rw [← Ht.out]; exact h i hlt)
        have Hno := hide hno
        have hb7 := hb1.trans (hb6.mono hb1.size)
        clear he hno hts
        go_wp2
        go_ret
        exact ⟨⟨false, rfl, fun h => absurd h Hno.out, fun _ => rfl⟩, hb7⟩
    · go_wp2
      go_ret
      exact ⟨⟨true, rfl, fun _ => rfl, fun h => absurd (fun j hj => Hall.out j (by omega)) h⟩, hbw⟩

end Go.Proofs.YtnjaofkieajnlaaGreat

/- The makers of the statements without the document's answer: pick, spec, pieces, word. -/
namespace Go.Proofs.YtnjaofkieajnlaaGreat
open Go.RowKit

/-- The number that a raw one speaks of. -/
def rawOf (c : Int) : Int := if c < 0 then -(c + 1) else c

theorem rawOf_bd (c : Int) (h1 : -9223372036854775808 ≤ c) (h2 : c ≤ 9223372036854775807) : 0 ≤ rawOf c ∧ rawOf c ≤ 9223372036854775807 := by
  unfold rawOf; split <;> omega

/-- A specification that may be, and a size. -/
structure SpecOk (K M O S z : Nat) : Prop where
  hK : 1 ≤ K ∧ K ≤ 20
  hM : 1 ≤ M ∧ M ≤ 20
  hO : 1 ≤ O ∧ O ≤ M
  hS : S ≤ 65535
  hz : 1 ≤ z ∧ z ≤ 16

/-- The same of whole numbers. -/
structure SpecOkI (K M O S z : Int) : Prop where
  hK : 1 ≤ K ∧ K ≤ 20
  hM : 1 ≤ M ∧ M ≤ 20
  hO : 1 ≤ O ∧ O ≤ M
  hS : 0 ≤ S ∧ S ≤ 65535
  hz : 1 ≤ z ∧ z ≤ 16

end Go.Proofs.YtnjaofkieajnlaaGreat

/- The document's own Send. -/
namespace Go.Proofs.YtnjaofkieajnlaaGreat
open Go.RowKit

/-- The packets of a word's first pieces. -/
def packTo (K M O S z : Nat) (P : List ByteArray) : Nat → List ByteArray
  | 0 => []
  | i + 1 => packTo K M O S z P i ++ [packB K M O S z i (P.getD i ByteArray.empty)]

theorem packTo_length (K M O S z : Nat) (P : List ByteArray) (i : Nat) : (packTo K M O S z P i).length = i := by
  induction i with
  | zero => rfl
  | succ i ih => show (packTo K M O S z P i ++ [_]).length = _; rw [List.length_append, ih]; rfl

theorem cutTo_size (t : ByteArray) (z j : Nat) (h : j * z ≤ t.size) : ∀ x ∈ cutTo t z j, x.size = z := by
  induction j with
  | zero => intro x hx; simp [cutTo] at hx
  | succ j ih =>
    intro x hx
    rw [Nat.succ_mul] at h
    rcases List.mem_append.1 (show x ∈ cutTo t z j ++ [t.extract (j * z) (j * z + z)] from hx) with hx | hx
    · exact ih (by omega) x hx
    · simp at hx; subst hx
      rw [ByteArray.size_extract]; omega

theorem objT_size (N : Nat) (o : ByteArray) (h : o.size + 2 ≤ N) : (objT N o).size = N := by
  unfold objT
  rw [ByteArray.size_append, ByteArray.size_append, zeroB_size]
  show 2 + o.size + (N - (2 + o.size)) = N
  omega

theorem shape_made {l : List ByteArray} {n z : Nat} (hl : l.length = n) (hn : 0 < n) (hs : ∀ x ∈ l, x.size = z) (hz : 1 ≤ z ∧ z ≤ 16) : Shaped l n ∧ (l.getD 0 ByteArray.empty).size = z := by
  have hget : ∀ k, k < l.length → (l.getD k ByteArray.empty).size = z := fun k hk => hs _ (by rw [List.getD_eq_getElem?_getD, List.getElem?_eq_getElem hk]; exact List.getElem_mem hk)
  exact ⟨⟨hl, fun k hk => by rw [hget k hk, hget 0 (by omega)]; omega⟩, hget 0 (by omega)⟩

/-- What is owned from a place on is owned from a lower one on. -/
theorem owns_low {w : World} {base base' : Nat} {e : TypeId} {size : Nat} {v : Value} {n : Nat} {xs : List Value} (h : w.ownsRow base e size v n xs) (hb : base' ≤ base) : w.ownsRow base' e size v n xs := by
  refine ⟨h.1, ?_⟩
  rcases h.2 with h2 | ⟨g, cap, cur, h1, h2, h3⟩
  · exact Or.inl h2
  · exact Or.inr ⟨g, cap, cur, h1, Nat.le_trans hb h2, h3⟩

/-- An object's word. -/
def objWord (K M O S z : Nat) (o : ByteArray) : List ByteArray := knownTo (cutTo (objT (K * z) o) z K) (rowOf K M O S) z M

set_option maxRecDepth 100000 in
set_option maxHeartbeats 8000000 in
theorem rsend_ok (K M O S z : Nat) (o : ByteArray) (w : World) (hK : 1 ≤ K ∧ K ≤ 20) (hM : 1 ≤ M ∧ M ≤ 20) (hO : 1 ≤ O ∧ O ≤ M) (hS : S ≤ 65535) (hz : 1 ≤ z ∧ z ≤ 16) (ho : o.size + 2 ≤ K * z) :
    Calls Tryz.prog 78 #[specV K M O S, .int .i64 (z : Int), .string o] w fun e w' => ∃ v, e = .returned (.tuple #[v, .int .i64 0]) ∧ w'.ownsRow w.heap.size 9 1 v (K + M) (textV (packTo K M O S z (objWord K M O S z o) (K + M))) ∧ Below w.heap.size w w' := by
  have hN2 : K * z ≤ 320 := Nat.le_trans (Nat.mul_le_mul hK.2 hz.2) (by decide)
  have hmul : (K : Int) * (z : Int) = ((K * z : Nat) : Int) := by simp
  have hm1 : 0 ≤ (K : Int) * (z : Int) := by rw [hmul]; omega
  have hm2 : (K : Int) * (z : Int) ≤ 320 := by rw [hmul]; omega
  have hc1 : ¬ (K : Int) * (z : Int) < (o.size : Int) + 2 := by rw [hmul]; omega
  have hma := fun W => may_below K M O S W
  have hmay : mayB K M O S = true := by simp [mayB]; omega
  rw [hmay] at hma
  have hds := cutTo_size (objT (K * z) o) z K (by rw [objT_size _ _ ho]; exact Nat.le_refl _)
  have hdl := cutTo_length (objT (K * z) o) z K
  obtain ⟨hsh, h0s⟩ := shape_made hdl (by omega) hds hz
  have hda := fun W => data_any M O S K z (K * z) o W hz hK.2 rfl ho
  have hwo := fun v W h => rword_ok K M O S v (cutTo (objT (K * z) o) z K) W hK hM hO hS hsh h
  rw [h0s] at hwo
  have hPl : (objWord K M O S z o).length = K + M := by unfold objWord; rw [knownTo_length, hdl]
  have hPs : ∀ x ∈ objWord K M O S z o, x.size = z := knownTo_size hds M
  have hPe : knownTo (cutTo (objT (K * z) o) z K) (rowOf K M O S) z M = objWord K M O S z o := rfl
  rw [hPe] at hwo
  clear hPe h0s hsh hmul hds hmay
  generalize objWord K M O S z o = P at *
  generalize cutTo (objT (K * z) o) z K = D at *
  obtain ⟨j0, gi, gz0, gz1, gz2⟩ := info_parts Tryz.infoText
  have hsp : (w.alloc (specB K M O S)).heap[w.heap.size]? = some (specB K M O S) := heap_alloc_new w _
  have hbA : Below w.heap.size w (w.alloc (specB K M O S)) := (Below.refl _ _).alloc (Nat.le_refl _) _
  go_enter Tryz.func78, Tryz.ntmps78
  go_wp2_with fail
  refine (hma _).mono ?_
  rintro e w1 ⟨rfl, hb1⟩
  have hs1 := block_on hsp hb1
  have hbw1 := hbA.trans (hb1.mono hbA.size)
  clear hsp hbA hb1 hma
  obtain ⟨c0, c1, c2, c3⟩ := spec_cells hs1
  have z1 : ¬ (z : Int) < 1 := by omega
  have z2 : ¬ (16 : Int) < (z : Int) := by omega
  go_wp2_with fail
  go_region_held3 (fun w' => w'.cell? ⟨w.heap.size, 0, none⟩ = some (.int .i64 (K : Int)) ∧ w'.cell? ⟨w.heap.size, 1, none⟩ = some (.int .i64 (M : Int)) ∧ w'.cell? ⟨w.heap.size, 2, none⟩ = some (.int .i64 (O : Int)) ∧ w'.cell? ⟨w.heap.size, 3, none⟩ = some (.int .i64 (S : Int)))
    (first | (exact ⟨d0, d1, d2, d3⟩) | (exact ⟨e0, e1, e2, e3⟩) | go_keep)
    (first
      | (go_at_call 107; refine (hda _).mono ?_; rintro e w2 ⟨v2, rfl, hown2, hb2⟩; obtain ⟨d0, d1, d2, d3⟩ := spec_cells (block_on (w := w1.drew) hs1 hb2))
      | (go_at_call 76; refine (hwo _ _ (owns_texts hown2 hdl.symm)).mono ?_; rintro e w3 ⟨v3, rfl, hown3, hb3⟩; obtain ⟨g, cap, rfl, hg, hgl⟩ := hown3.form (by omega); obtain ⟨e0, e1, e2, e3⟩ := spec_cells (block_on (block_on (w := w1.drew) hs1 hb2) hb3)))
  have hs3 : w3.heap[w.heap.size]? = some (specB K M O S) := block_on (block_on (w := w1.drew) hs1 hb2) hb3
  have hb12 : Below w.heap.size w w2 := hbw1.drew.trans (Below.mono hb2 hbw1.size)
  have hbw3 : Below w.heap.size w w3 := hb12.trans (hb3.mono hb12.size)
  have htx := owns_texts hown3 hPl.symm
  clear d0 d1 d2 d3 e0 e1 e2 e3 hb2 hb3 hb12 hown2 c0 c1 c2 c3 hs1 hbw1 hda hwo hown3
  rename_i hheld
  clear hheld
  have hTc : ∀ k, k < K + M → w3.cell? ⟨g, k, none⟩ = some (.string (P.getD k ByteArray.empty)) := by
    obtain ⟨ao, cap', hv', _, hT⟩ := htx
    injection hv' with hv1 hv2 hv3
    intro k hk
    obtain ⟨q, o1, hq1, hq2, hq3⟩ := hT k (by omega)
    rw [hq1] at hv1
    injection hv1 with hv1
    injection hv1 with hb1 ho1
    subst hb1 ho1
    rw [Nat.zero_add] at hq3
    exact hq3
  have HT := hide hTc
  clear hTc htx
  have hw3 := hbw3.size
  go_wp2_with fail
  go_loopw [9, 41] (fun ov t wr => ∃ i : Nat, i ≤ K + M ∧ t = .int .i64 i ∧ wr.ownsRow w3.heap.size 9 1 ov i (textV (packTo K M O S z P i)) ∧ Below w3.heap.size w3 wr) (fun _ t _ => K + M - (intOf t).toNat)
  case atStart => exact ⟨0, Nat.zero_le _, rfl, World.ownsRow_nil _ _ _ _, Below.refl _ _⟩
  case round =>
    obtain ⟨i, hiM, rfl, hown, hbr⟩ := hrel
    have hwr := hbr.size
    by_cases hlt : i < K + M
    · have hcl : wr.cell? ⟨g, i, none⟩ = some (.string (P.getD i ByteArray.empty)) := by
        rw [← HT.out i hlt]; exact hbr.cell hgl
      have hpm : P.getD i ByteArray.empty ∈ P := by
        rw [List.getD_eq_getElem?_getD, List.getElem?_eq_getElem (by omega)]; exact List.getElem_mem _
      have hps := hPs _ hpm
      have hpk : packTo K M O S z P (i + 1) = packTo K M O S z P i ++ [packB K M O S z i (P.getD i ByteArray.empty)] := rfl
      have Hpk := hide hpk
      clear hpk hpm
      generalize P.getD i ByteArray.empty = p at *
      obtain ⟨c0, c1, c2, c3⟩ := spec_cells (block_on hs3 hbr)
      go_wp2_with fail
      refine (packet_any K M O S z i p wr hK.2 hM.2 (by omega) hS (by omega) (by omega) (by omega)).mono ?_
      rintro e w4 ⟨rfl, hb4⟩
      have hown4 := owns_below hown hb4
      have hbr4 := hbr.trans (hb4.mono hbr.size)
      have hw4 := hbr4.size
      clear hb4 hown hbr c0 c1 c2 c3 hcl
      generalize packB K M O S z i p = pk at *
      go_wp2_with (at_builtin; refine wpList_append_lies _ rfl (.tmp 51) (.tmp 53) 27 rfl w3.heap.size 9 j0 (.string ByteArray.empty) 1 16 Tryz.underlying27 gi gz0 gz1 gz2 rfl (by decide) _ _ _ rfl (hown4.alloc _) ⟨w4.heap.size, 0, none⟩ 1 1 [.string pk] rfl rfl (one_news _ _ _) (one_oneCell rfl) (by decide) (by unfold maxLen; omega) (by omega) (by simp; omega) (w4.heap.size + 1) (by simp) ?_)
      intro g5 cap5 w5 hown5 hgr5 hat5 hlt5
      have hb5 : Below w3.heap.size w3 w5 := hbr4.grown (grownBy_of_alloc hgr5) hbr4.size (fun k e => (hown4.lt k e).1)
      clear hown4 hbr4 hgr5 hat5
      go_wp2_with fail
      go_roundw
      case rel => exact ⟨i + 1, by omega, by go_num, by rw [Hpk.out, textV_append]; exact hown5, hb5⟩
      case measure => simp [intOf]; omega
    · have hii : i = K + M := by omega
      subst hii
      have hff := hbw3.trans (hbr.mono hw3)
      have hof := owns_low hown hw3
      have hcf : ¬ ((K + M : Nat) : Int) < (K : Int) + (M : Int) := by omega
      go_wp2_with fail
      go_ret2
      exact ⟨_, rfl, hof, hff⟩

end Go.Proofs.YtnjaofkieajnlaaGreat

/- The program's data of an object. -/
namespace Go.Proofs.YtnjaofkieajnlaaGreat
open Go.RowKit

/-- How long a slice is. -/
def lenS (v : Value) : Nat := match v with
  | .slice _ n _ => n
  | _ => 0

/-- Some of a row's bytes, as a text. -/
theorem conv_part (B : ByteArray) (g n c base m k c2 : Nat) (w : World) (h : w.ownsRow base 5 1 (.slice (some ⟨g, 0, none⟩) n c) n (bytesV B)) (hm : m + k ≤ B.size) : (convert 106 9 (.slice (some ⟨g, m, none⟩) k c2)).run Tryz.prog w = .ok (.string (B.extract m (m + k))) w := by
  have hcell := h.cells (g := g) rfl
  have hsz : (B.extract m (m + k)).size = k := by rw [ByteArray.size_extract]; omega
  have hcells : ∀ j, j < k → w.cell? ⟨g, m + j, none⟩ = some (.int .u8 ((numsB (B.extract m (m + k))).getD j 0)) := fun j hj => by
    rw [numsB_getD]
    have h1 := hcell (m + j) _ (bytesV_getElem B (m + j) (by omega))
    rw [Addr.add_mid, Nat.zero_add] at h1
    rw [h1]
    have : byteAt (B.extract m (m + k)) j = byteAt B (m + j) := by
      rw [← byteAt_get _ _ (show j < (B.extract m (m + k)).size by omega), ← byteAt_get _ _ (show m + j < B.size by omega)]
      rw [ByteArray.getElem_extract]
    rw [this]
  have hcv := run_convert_bytes_arg (P := Tryz.prog) w 106 5 Tryz.underlying106 Tryz.underlying5 g m k c2 (numsB (B.extract m (m + k))) (by rw [numsB_length]; exact hsz) hcells 9 Tryz.underlying9
  rw [strOfNums_numsB] at hcv
  exact hcv

set_option maxRecDepth 100000 in
set_option maxHeartbeats 8000000 in
theorem pdata_any (K z N : Nat) (o : ByteArray) (w : World) (hz : 1 ≤ z ∧ z ≤ 16) (hK : 1 ≤ K ∧ K ≤ 20) (hN : N = K * z) (ho : o.size + 2 ≤ N) :
    Calls Tryz.prog 119 #[.int .i64 (K : Int), .int .i64 (z : Int), .string o] w fun e w' => ∃ v, e = .returned v ∧ w'.ownsRow w.heap.size 9 1 v K (textV (cutTo (objT N o) z K)) ∧ Below w.heap.size w w' := by
  have hN2 : N ≤ 320 := by rw [hN]; exact Nat.le_trans (Nat.mul_le_mul hK.2 hz.2) (by decide)
  have hmul : (K : Int) * (z : Int) = (N : Int) := by rw [hN]; simp
  have hm1 : 0 ≤ (K : Int) * (z : Int) := by rw [hmul]; omega
  have hm2 : (K : Int) * (z : Int) ≤ 320 := by rw [hmul]; omega
  obtain ⟨i0, hi0, hz0, hz1, hz2⟩ := info_parts Tryz.infoByte
  obtain ⟨j0, gi, gz0, gz1, gz2⟩ := info_parts Tryz.infoText
  have hmk : ∀ w, (Instr.makeSlice 106 (.int .i64 0) (.int .i64 ((K : Int) * (z : Int)))).run Tryz.prog w = .ok (.slice (some ⟨w.heap.size, 0, none⟩) 0 N) (w.alloc (.cells (madeCells #[.int .u8 0] N) 5)) := fun w => by
    rw [hmul]; exact run_make_byteRow N (by omega) w
  have hmk2 := run_make_texts K (by omega)
  have hob : objT N o = lenB o.size ++ o ++ zeroB (N - (2 + o.size)) := rfl
  have hos : (objT N o).size = N := objT_size N o ho
  have n1 : bytesV (lenB o.size) = [.int .u8 ((o.size % 256 : Nat) : Int), .int .u8 ((o.size / 256 : Nat) : Int)] := by
    unfold bytesV; rw [numsB_len o.size (by omega)]; rfl
  have hls : (lenB o.size).size = 2 := rfl
  generalize lenB o.size = lb at *
  generalize objT N o = T at *
  have HO := hide hob
  have HM := hide hmul
  have HN := hide hN
  have N1 := hide n1
  clear hob hmul hN n1
  go_enter Tryz.func119, Tryz.ntmps119
  go_upto_region 2 with fail
  have hbA : Below w.heap.size w (w.alloc (.cells (madeCells #[.int .u8 0] N) 5)) := (Below.refl _ _).alloc (Nat.le_refl _) _
  have hown : (w.alloc (.cells (madeCells #[.int .u8 0] N) 5)).ownsRow w.heap.size 5 1 (.slice (some ⟨w.heap.size, 0, none⟩) 0 N) 0 [] := World.ownsRow_made (base := w.heap.size) (e := 5) (size := 1) w (madeCells #[.int .u8 0] N) N (Nat.le_refl _) (by unfold maxLen; omega) (by simp [size_madeCells])
  have hsz : w.heap.size ≤ (w.alloc (.cells (madeCells #[.int .u8 0] N) 5)).heap.size := by simp
  generalize w.alloc (.cells (madeCells #[.int .u8 0] N) 5) = W at *
  clear hmk
  go_wp2_with (at_builtin; refine wpList_append_lies _ rfl (.tmp 15) (.tmp 24) 106 rfl w.heap.size 5 i0 (.int .u8 0) 1 1 Tryz.underlying106 hi0 hz0 hz1 hz2 rfl (by decide) _ _ _ rfl (hown.alloc _) ⟨W.heap.size, 0, none⟩ 2 2 (bytesV lb) rfl (by rw [bytesV_len, hls]) (byte_news W lb _ (by rw [N1.out]; rfl)) (bytesV_one lb) (by decide) (by unfold maxLen; omega) (by omega) (by simp; omega) (W.heap.size + 1) (by simp) ?_)
  intro g1 k1 W1 hown1 hgr1 hat1 hlt1
  have hb1 := below_own hown hgr1 hsz
  have hbA1 := hbA.trans hb1
  have hown1' : W1.ownsRow w.heap.size 5 1 (.slice (some ⟨g1, 0, none⟩) 2 k1) 2 (bytesV lb) := hown1
  clear hown hgr1 hat1 hlt1 hbA hb1 hown1 hsz N1
  have hsz1 := hbA1.size
  go_wp2_with (at_builtin; refine Go.Lib.wpList_append_own_string _ rfl (.tmp 26) (.tmp 27) 106 9 rfl w.heap.size 5 i0 Tryz.underlying106 Tryz.underlying9 hi0 hz0 hz1 hz2 _ _ _ rfl hown1' o rfl (by unfold maxLen; omega) (by omega) (by omega) ?_)
  intro v2 W2 hown2 hgr2 hn2
  have hb2 := below_ownS hown1' hgr2 hsz1
  have hbA2 := hbA1.trans hb2
  rw [bytesV_str, ← bytesV_app] at hown2
  obtain ⟨g2, k2, rfl, hg2, hgl2⟩ := hown2.form (by omega)
  clear hown1' hgr2 hn2 hbA1 hb2 hsz1
  have hts : (lb ++ o).size = 2 + o.size := by rw [ByteArray.size_append, hls]
  generalize lb ++ o = t0 at *
  go_wp2_with fail
  go_loopw [7] (fun tv wr => ∃ (k g c : Nat), 2 + o.size + k ≤ N ∧ tv = .slice (some ⟨g, 0, none⟩) (2 + o.size + k) c ∧ wr.ownsRow w.heap.size 5 1 tv (2 + o.size + k) (bytesV (t0 ++ zeroB k)) ∧ Below w.heap.size w wr) (fun tv _ => N - lenS tv)
  case atStart => exact ⟨0, g2, k2, by omega, rfl, by rw [show zeroB 0 = ByteArray.empty from rfl, ByteArray.append_empty]; exact hown2, hbA2⟩
  case round =>
    clear hown2 hbA2 hg2 hgl2
    obtain ⟨k, g, c, hk1, rfl, hown, hbw⟩ := hrel
    have hsw := hbw.size
    by_cases hlt : 2 + o.size + k < N
    · have hc1 : ((2 : Int) + (o.size : Int) + (k : Int)) < (K : Int) * (z : Int) := by rw [HM.out]; omega
      have hps := pad_succ t0 k
      have Hps := hide hps
      have n5 : bytesV ⟨#[0]⟩ = [.int .u8 0] := rfl
      have s5 : (ByteArray.mk #[0]).size = 1 := rfl
      have N5 := hide n5
      clear hps n5
      generalize ByteArray.mk #[0] = B5 at *
      go_wp2_with (at_builtin; refine wpList_append_lies _ rfl (.tmp 35) (.tmp 36) 106 rfl w.heap.size 5 i0 (.int .u8 0) 1 1 Tryz.underlying106 hi0 hz0 hz1 hz2 rfl (by decide) _ _ _ rfl (hown.alloc _) ⟨wr.heap.size, 0, none⟩ 1 1 (bytesV B5) rfl (by rw [bytesV_len, s5]) (byte_news wr B5 _ (by rw [N5.out])) (bytesV_one B5) (by decide) (by unfold maxLen; omega) (by omega) (by simp; omega) (wr.heap.size + 1) (by simp) ?_)
      intro g3 k3 W3 hown3 hgr3 hat3 hlt3
      have hb3 := below_own hown hgr3 hsw
      have hbw3 := hbw.trans hb3
      rw [← bytesV_app, Hps.out] at hown3
      clear hgr3 hat3 hlt3 hb3 hbw hown
      go_wp2_with fail
      go_roundw
      case rel => exact ⟨k + 1, g3, k3, by omega, rfl, hown3, hbw3⟩
      case measure => simp only [lenS]; omega
    · have hc1 : ¬ ((2 : Int) + (o.size : Int) + (k : Int)) < (K : Int) * (z : Int) := by rw [HM.out]; omega
      have hkN : k = N - (2 + o.size) := by omega
      have hT : t0 ++ zeroB k = T := by rw [hkN]; exact HO.out.symm
      rw [hT] at hown
      have hlN : 2 + o.size + k = N := by omega
      rw [hlN] at hown ⊢
      clear HO hT hkN hlt hlN hk1 hc1
      have hc1 : ¬ (N : Int) < (K : Int) * (z : Int) := by rw [HM.out]; omega
      have hcap : N ≤ c := by
        rcases hown.2 with ⟨h, _⟩ | ⟨g', c', cur, h, _, _, hc, _⟩
        · cases h
        · injection h with h1 h2 h3; omega
      have hgw : g < wr.heap.size := (hown.lt g rfl).2
      go_upto_region 7 with fail
      have hst : (wr.alloc (.cells (madeCells #[.string ByteArray.empty] K) 9)).ownsRow wr.heap.size 9 1 (.slice (some ⟨wr.heap.size, 0, none⟩) 0 K) 0 (textV (cutTo T z 0)) := World.ownsRow_made (base := wr.heap.size) (e := 9) (size := 1) wr (madeCells #[.string ByteArray.empty] K) K (Nat.le_refl _) (by unfold maxLen; omega) (by simp [size_madeCells])
      have hbS : Below wr.heap.size wr (wr.alloc (.cells (madeCells #[.string ByteArray.empty] K) 9)) := (Below.refl _ _).alloc (Nat.le_refl _) _
      generalize wr.alloc (.cells (madeCells #[.string ByteArray.empty] K) 9) = W5 at *
      clear hmk2
      obtain ⟨V, hV⟩ : ∃ V, V = wr := ⟨_, rfl⟩
      rw [← hV] at hown hst hbS hbw hsw hgw
      rw [← hV]
      clear hV
      go_wp2_with fail
      go_loopw [8, 9] (fun dv iv wi => ∃ j : Nat, j ≤ K ∧ iv = .int .i64 (j : Int) ∧ wi.ownsRow V.heap.size 9 1 dv j (textV (cutTo T z j)) ∧ Below V.heap.size V wi) (fun _ iv _ => K - (intOf iv).toNat)
      case atStart => exact ⟨0, Nat.zero_le _, rfl, hst, hbS⟩
      case round =>
        clear hst hbS
        obtain ⟨j, hj, rfl, hod, hbi⟩ := hrel
        by_cases hjK : j < K
        · have hjm : (j : Int) * (z : Int) = ((j * z : Nat) : Int) := by simp
          have hmz : j * z + z ≤ N := by rw [HN.out, ← Nat.succ_mul]; exact Nat.mul_le_mul_right z hjK
          have hcut : cutTo T z (j + 1) = cutTo T z j ++ [T.extract (j * z) (j * z + z)] := rfl
          have Hcut := hide hcut
          have j1 : 0 ≤ (j : Int) * (z : Int) := by rw [hjm]; omega
          have j2 : (j : Int) * (z : Int) ≤ 320 := by rw [hjm]; omega
          have hown2 := owns_of_block (w' := wr) hown (fun k hk => hbi.block k (hown.lt k hk).2)
          have hcv := conv_part T g N c w.heap.size (j * z) z (c - j * z) wr hown2 (by rw [hos]; exact hmz)
          have HJ := hide hjm
          clear hcut hjm
          go_upto_region 11 with fail
          rw [HJ.out]
          clear j1 j2 HJ
          generalize j * z = m at *
          have hsi := Nat.le_trans (Nat.le_refl _) hbi.size
          go_wp2_with (at_builtin; refine wpList_append_lies _ rfl (.tmp 48) (.tmp 56) 27 rfl V.heap.size 9 j0 (.string ByteArray.empty) 1 16 Tryz.underlying27 gi gz0 gz1 gz2 rfl (by decide) _ _ _ rfl (hod.alloc _) ⟨wr.heap.size, 0, none⟩ 1 1 [.string (T.extract m (m + z))] rfl rfl (one_news _ _ _) (one_oneCell rfl) (by decide) (by unfold maxLen; omega) (by omega) (by simp; omega) (wr.heap.size + 1) (by simp) ?_)
          intro g6 k6 W6 hown6 hgr6 hat6 hlt6
          have hb6 := below_own hod hgr6 hsi
          have hbi6 := hbi.trans hb6
          clear hgr6 hat6 hlt6 hb6 hbi hod hown2 hcv
          go_wp2_with fail
          go_roundw
          case rel => exact ⟨j + 1, by omega, by go_num, by rw [Hcut.out, textV_append]; exact hown6, hbi6⟩
          case measure => simp [intOf]; omega
        · have hjj : j = K := by omega
          subst hjj
          have hff := hbw.trans (hbi.mono hsw)
          have hof := owns_low hod hsw
          go_wp2_with fail
          go_ret
          exact ⟨_, rfl, hof, hff⟩

end Go.Proofs.YtnjaofkieajnlaaGreat

/- The program's Room. -/
namespace Go.Proofs.YtnjaofkieajnlaaGreat
open Go.RowKit

set_option maxRecDepth 100000 in
set_option maxHeartbeats 4000000 in
theorem room_any (K z : Nat) (w : World) (hK : K ≤ 20) (hz : z ≤ 16) :
    Calls Tryz.prog 101 #[.int .i64 (K : Int), .int .i64 (z : Int)] w fun e w' => e = .returned (.int .i64 ((K : Int) * (z : Int) - 2)) ∧ w' = w := by
  have hN2 : K * z ≤ 320 := Nat.le_trans (Nat.mul_le_mul hK hz) (by decide)
  have hmul : (K : Int) * (z : Int) = ((K * z : Nat) : Int) := by simp
  have hm1 : 0 ≤ (K : Int) * (z : Int) := by rw [hmul]; omega
  have hm2 : (K : Int) * (z : Int) ≤ 320 := by rw [hmul]; omega
  clear hmul hN2
  go_enter Tryz.func101, Tryz.ntmps101
  go_wp2_with fail
  go_ret
  exact ⟨rfl, rfl⟩

end Go.Proofs.YtnjaofkieajnlaaGreat

/- The document's own Send, where it refuses. -/
namespace Go.Proofs.YtnjaofkieajnlaaGreat
open Go.RowKit

set_option maxRecDepth 100000 in
set_option maxHeartbeats 4000000 in
theorem rsend_bad (K M O S z : Int) (o : ByteArray) (w : World) (hmay : mayB K M O S = false) :
    Calls Tryz.prog 78 #[specV K M O S, .int .i64 z, .string o] w fun e w' => e = .returned (.tuple #[.slice none 0 0, .int .i64 1]) ∧ Below w.heap.size w w' := by
  have hma := fun W => may_below K M O S W
  rw [hmay] at hma
  have hbA : Below w.heap.size w (w.alloc (.cells #[.int .i64 K, .int .i64 M, .int .i64 O, .int .i64 S] 25)) := (Below.refl _ _).alloc (Nat.le_refl _) _
  go_enter Tryz.func78, Tryz.ntmps78
  go_wp2_with fail
  refine (hma _).mono ?_
  rintro e w1 ⟨rfl, hb1⟩
  have hbw1 := hbA.trans (hb1.mono hbA.size)
  go_wp2_with fail
  go_ret2
  exact ⟨rfl, hbw1⟩

set_option maxRecDepth 100000 in
set_option maxHeartbeats 4000000 in
theorem rsend_arg (K M O S z : Int) (o : ByteArray) (w : World) (hmay : mayB K M O S = true) (hz : z < 1 ∨ (1 ≤ z ∧ 16 < z)) :
    Calls Tryz.prog 78 #[specV K M O S, .int .i64 z, .string o] w fun e w' => e = .returned (.tuple #[.slice none 0 0, .int .i64 2]) ∧ Below w.heap.size w w' := by
  have hma := fun W => may_below K M O S W
  rw [hmay] at hma
  have hbA : Below w.heap.size w (w.alloc (.cells #[.int .i64 K, .int .i64 M, .int .i64 O, .int .i64 S] 25)) := (Below.refl _ _).alloc (Nat.le_refl _) _
  rcases hz with hz | hz
  all_goals
    go_enter Tryz.func78, Tryz.ntmps78
    go_wp2_with fail
    refine (hma _).mono ?_
    rintro e w1 ⟨rfl, hb1⟩
    have hbw1 := hbA.trans (hb1.mono hbA.size)
    go_wp2_with fail
    go_ret2
    exact ⟨rfl, hbw1⟩

set_option maxRecDepth 100000 in
set_option maxHeartbeats 4000000 in
theorem rsend_shape (K M O S z : Nat) (o : ByteArray) (w : World) (hmay : mayB K M O S = true) (hz : 1 ≤ z ∧ z ≤ 16) (ho : K * z < o.size + 2) (hol : o.size + 2 ≤ maxLen) :
    Calls Tryz.prog 78 #[specV K M O S, .int .i64 (z : Int), .string o] w fun e w' => e = .returned (.tuple #[.slice none 0 0, .int .i64 3]) ∧ Below w.heap.size w w' := by
  have hKK := mayB_true hmay
  have hK : 1 ≤ K ∧ K ≤ 20 := by omega
  clear hKK
  have hN2 : K * z ≤ 320 := Nat.le_trans (Nat.mul_le_mul hK.2 hz.2) (by decide)
  have hmul : (K : Int) * (z : Int) = ((K * z : Nat) : Int) := by simp
  have hm1 : 0 ≤ (K : Int) * (z : Int) := by rw [hmul]; omega
  have hm2 : (K : Int) * (z : Int) ≤ 320 := by rw [hmul]; omega
  have hc1 : (K : Int) * (z : Int) < (o.size : Int) + 2 := by rw [hmul]; omega
  unfold maxLen at hol
  clear hmul
  have hma := fun W => may_below K M O S W
  rw [hmay] at hma
  have hsp : (w.alloc (specB K M O S)).heap[w.heap.size]? = some (specB K M O S) := heap_alloc_new w _
  have hbA : Below w.heap.size w (w.alloc (specB K M O S)) := (Below.refl _ _).alloc (Nat.le_refl _) _
  go_enter Tryz.func78, Tryz.ntmps78
  go_wp2_with fail
  refine (hma _).mono ?_
  rintro e w1 ⟨rfl, hb1⟩
  have hs1 := block_on hsp hb1
  have hbw1 := hbA.trans (hb1.mono hbA.size)
  clear hsp hbA hb1 hma
  obtain ⟨c0, c1, c2, c3⟩ := spec_cells hs1
  have z1 : ¬ (z : Int) < 1 := by omega
  have z2 : ¬ (16 : Int) < (z : Int) := by omega
  go_wp2_with fail
  go_ret2
  exact ⟨rfl, hbw1⟩

end Go.Proofs.YtnjaofkieajnlaaGreat
