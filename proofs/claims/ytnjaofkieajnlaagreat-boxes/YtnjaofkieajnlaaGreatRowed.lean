/- Rowed: for every specification the program's Rows answers as the document asks. -/
import Derived.Test.YtnjaofkieajnlaaGreatSameRows
namespace Go.Proofs.YtnjaofkieajnlaaGreat
open Go.RowKit

theorem may_nats {K M O S : Int} (h : mayB K M O S = true) : ∃ k m o s : Nat, K = k ∧ M = m ∧ O = o ∧ S = s ∧ (1 ≤ k ∧ k ≤ 20) ∧ (1 ≤ m ∧ m ≤ 20) ∧ (1 ≤ o ∧ o ≤ m) ∧ s ≤ 65535 := by
  have hh := mayB_true h
  exact ⟨K.toNat, M.toNat, O.toNat, S.toNat, by omega, by omega, by omega, by omega, by omega, by omega, by omega, by omega⟩

theorem block_on {w w1 : World} {h : Nat} {o : Obj} (hs : w.heap[h]? = some o) (hb : Below w.heap.size w w1) : w1.heap[h]? = some o := by
  rw [hb.block h (Array.getElem?_eq_some_iff.1 hs).1]; exact hs

theorem may_below (K M O S : Int) (w : World) :
    Calls Tryz.prog 24 #[specV K M O S] w fun e w' => e = .returned (.bool (mayB K M O S)) ∧ Below w.heap.size w w' := by
  refine (may_any K M O S w).mono ?_
  rintro e w' ⟨rfl, rfl⟩
  exact ⟨rfl, (Below.refl _ _).alloc (Nat.le_refl _) _⟩

/-- The cells of a specification of whatever numbers. -/
theorem spec_cellsI {w : World} {h : Nat} {K M O S : Int} (hs : w.heap[h]? = some (.cells #[.int .i64 K, .int .i64 M, .int .i64 O, .int .i64 S] 25 (0, 0))) :
    w.cell? ⟨h, 0, none⟩ = some (.int .i64 K) ∧ w.cell? ⟨h, 1, none⟩ = some (.int .i64 M) ∧ w.cell? ⟨h, 2, none⟩ = some (.int .i64 O) ∧ w.cell? ⟨h, 3, none⟩ = some (.int .i64 S) := by
  refine ⟨?_, ?_, ?_, ?_⟩ <;> (rw [cell_of_row _ _ _ _ _ _ hs]; rfl)

set_option maxRecDepth 100000 in
set_option maxHeartbeats 1000000 in
theorem lawRows_ok (K M O S : Nat) (w : World) (hK : 1 ≤ K ∧ K ≤ 20) (hM : 1 ≤ M ∧ M ≤ 20) (hO : 1 ≤ O ∧ O ≤ M) (hS : S ≤ 65535) :
    Calls Tryz.prog 44 #[specV K M O S] w fun e w' => ∃ g rv, e = .returned (.tuple #[.slice (some ⟨g, 0, none⟩) M M, .bool true]) ∧ RowsAt w' (g + 1) g M rv (rowOf K M O S) ∧ w.heap.size ≤ g ∧ Below w.heap.size w w' := by
  have hmay : mayB K M O S = true := by simp [mayB]; omega
  go_enter Tryz.func44, Tryz.ntmps44
  go_wp2_with fail
  refine (rows_ok K M O S _ hK hM hO hS).mono ?_
  rintro e w1 ⟨g, rv, rfl, hr, hg, hb⟩
  have hs1 := block_on (heap_alloc_new w _) hb
  have hb1 : Below w.heap.size w w1 := ((Below.refl _ _).alloc (Nat.le_refl _) _).trans (hb.mono (by simp))
  simp only [World.size_alloc] at hg
  obtain ⟨c0, c1, c2, c3⟩ := spec_cellsI hs1
  clear hb
  go_wp2_with fail
  refine (may_below _ _ _ _ _).mono ?_
  rintro e w2 ⟨rfl, hb⟩
  rw [hmay]
  have hs2 := block_on hs1 hb
  have hb2 := hb1.trans (hb.mono hb1.size)
  have hr2 := hr.below hb
  clear c0 c1 c2 c3 hs1 hb1 hr hb
  obtain ⟨c0, c1, c2, c3⟩ := spec_cellsI hs2
  go_wp2_with fail
  refine (rrows_ok K M O S _ hK hM hO hS).mono ?_
  rintro e w3 ⟨g3, rv3, rfl, hr3, hg3, hb⟩
  have hb3 := hb2.trans (hb.mono hb2.size)
  have hr2' := hr2.below hb
  clear c0 c1 c2 c3 hs2 hb2 hr2 hb
  go_wp2_with fail
  refine (sameRows_yes g g3 (g + 1) (g3 + 1) M rv rv3 _ _ (by omega) (fun i _ => by have := rowOf_len K M O S i; omega) hr2' hr3).mono ?_
  rintro e w4 ⟨rfl, hcg⟩
  have hr4 := hr2'.chg hcg (fun x => x) (fun _ _ _ x => x)
  have hb4 := ((Chg.of_below hb3 (fun _ => False)).trans hcg (fun _ _ x => x)).below (fun _ _ x => x)
  clear hcg hr2' hr3 hb3
  go_wp2
  go_ret2
  exact ⟨g, rv, rfl, hr4, by omega, hb4⟩

set_option maxRecDepth 100000 in
set_option maxHeartbeats 1000000 in
theorem lawRows_bad (K M O S : Int) (w : World) (hmay : mayB K M O S = false) :
    Calls Tryz.prog 44 #[specV K M O S] w fun e w' => e = .returned (.tuple #[.slice none 0 0, .bool true]) ∧ Below w.heap.size w w' := by
  go_enter Tryz.func44, Tryz.ntmps44
  go_wp2_with fail
  refine (rows_bad K M O S _ hmay).mono ?_
  rintro e w1 ⟨rfl, hb⟩
  have hs1 := block_on (heap_alloc_new w _) hb
  have hb1 : Below w.heap.size w w1 := ((Below.refl _ _).alloc (Nat.le_refl _) _).trans (hb.mono (by simp))
  obtain ⟨c0, c1, c2, c3⟩ := spec_cellsI hs1
  clear hb
  go_wp2_with fail
  refine (may_below _ _ _ _ _).mono ?_
  rintro e w2 ⟨rfl, hb⟩
  rw [hmay]
  have hb2 := hb1.trans (hb.mono hb1.size)
  clear c0 c1 c2 c3 hs1 hb1 hb
  go_wp2
  go_ret2
  exact ⟨rfl, hb2⟩

end Go.Proofs.YtnjaofkieajnlaaGreat
