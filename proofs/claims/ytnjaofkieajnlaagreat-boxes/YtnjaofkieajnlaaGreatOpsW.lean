/- Steps of a script, as values and as they are read; the statement's own pick. -/
import Derived.Test.YtnjaofkieajnlaaGreatKeep
import Derived.Test.YtnjaofkieajnlaaGreatWordKn
import Derived.Test.YtnjaofkieajnlaaGreatRowed
import Derived.Deep.MidRow
namespace Go.Proofs.YtnjaofkieajnlaaGreat
open Go.RowKit

/-- The statement's world, as its block holds it. -/
abbrev worldB (bsv : Value) : Obj := .cells #[.int .i64 0, .bool false, .slice none 0 0, .slice none 0 0, .slice none 0 0, .slice none 0 0, bsv, .slice none 0 0, .slice none 0 0, .slice none 0 0, .slice none 0 0, .slice none 0 0, .slice none 0 0, .slice none 0 0] 39 (0, 0)

/-- A step as a value, and as a block. -/
abbrev opC (k a b c K M O S : Int) (s : ByteArray) (lv : Value) : Array Value := #[.int .i64 k, .int .i64 a, .int .i64 b, .int .i64 c, .int .i64 K, .int .i64 M, .int .i64 O, .int .i64 S, .string s, lv]

theorem op_cells {w : World} {q : Nat} {k a b c K M O S : Int} {s : ByteArray} {lv : Value} {t : TypeId} (h : w.heap[q]? = some (.cells (opC k a b c K M O S s lv) t (0, 0))) :
    w.cell? ⟨q, 0, none⟩ = some (.int .i64 k) ∧ w.cell? ⟨q, 1, none⟩ = some (.int .i64 a) ∧ w.cell? ⟨q, 2, none⟩ = some (.int .i64 b) ∧ w.cell? ⟨q, 4, none⟩ = some (.int .i64 K) ∧ w.cell? ⟨q, 5, none⟩ = some (.int .i64 M) ∧ w.cell? ⟨q, 6, none⟩ = some (.int .i64 O) ∧ w.cell? ⟨q, 7, none⟩ = some (.int .i64 S) ∧ w.cell? ⟨q, 8, none⟩ = some (.string s) := by
  refine ⟨?_, ?_, ?_, ?_, ?_, ?_, ?_, ?_⟩ <;> rw [cell_of_row _ _ _ _ _ _ h] <;> rfl

set_option maxRecDepth 100000 in
set_option maxHeartbeats 400000 in
theorem lpick_any (c n : Int) (w : World) (h1 : -9223372036854775808 ≤ c) (h2 : c ≤ 9223372036854775807) (hn : 1 ≤ n) :
    Calls Tryz.prog 25 #[.int .i64 c, .int .i64 n] w fun e w' => e = .returned (.int .i64 (rawOf c % n)) ∧ w' = w := by
  by_cases hc : c < 0
  · have hr : rawOf c = -(c + 1) := by simp [rawOf, hc]
    rw [hr]
    clear hr
    go_enter Tryz.func25, Tryz.ntmps25
    go_wp2
    go_ret
    exact ⟨ret_int (by rw [← Int.neg_tmod, Int.tmod_eq_emod_of_nonneg (by omega)]), rfl⟩
  · have hr : rawOf c = c := by simp [rawOf, hc]
    rw [hr]
    clear hr
    go_enter Tryz.func25, Tryz.ntmps25
    go_wp2
    go_ret
    exact ⟨rfl, rfl⟩

theorem pick_place' (c : Int) (n : Nat) (hn : 0 < n) : rawOf c % (n : Int) = (placeOf n c : Int) := by
  unfold placeOf rawOf
  have h1 := Int.emod_nonneg (if c < 0 then -(c + 1) else c) (show (n : Int) ≠ 0 by omega)
  omega

/-- A step of a script. -/
structure OpR where
  k : Int
  a : Int
  b : Int
  c : Int
  K : Int
  M : Int
  O : Int
  S : Int
  s : ByteArray
  lv : Value

def OpR.none : OpR := ⟨0, 0, 0, 0, 0, 0, 0, 0, ByteArray.empty, .slice .none 0 0⟩

def OpR.cells (r : OpR) : List Value := [.int .i64 r.k, .int .i64 r.a, .int .i64 r.b, .int .i64 r.c, .int .i64 r.K, .int .i64 r.M, .int .i64 r.O, .int .i64 r.S, .string r.s, r.lv]

/-- A script that came in, as it is read. -/
def OpsAt (w : World) (v : Value) (l : List OpR) : Prop :=
  ∃ ao cap, v = .slice ao l.length cap ∧ l.length ≤ cap ∧ ∀ i, i < l.length → ∃ q o, ao = some ⟨q, o, none⟩ ∧ q < w.heap.size ∧ w.rangeAt q (o + i * 10) (l.getD i OpR.none).cells ∧ -9223372036854775808 ≤ (l.getD i OpR.none).a ∧ (l.getD i OpR.none).a ≤ 9223372036854775807

theorem range_below {w w' : World} {n q o : Nat} {cs : List Value} (h : w.rangeAt q o cs) (hb : Below n w w') (hq : q < n) : w'.rangeAt q o cs := fun j v hv => by
  rw [hb.cell (p := ⟨q, o + j, none⟩) hq]; exact h j v hv

theorem Tryz.sizeOp : (Tryz.prog.info? 29).map (·.size) = some 10 := by kernel_rfl

end Go.Proofs.YtnjaofkieajnlaaGreat
