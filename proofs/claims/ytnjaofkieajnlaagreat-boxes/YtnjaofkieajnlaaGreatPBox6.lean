/- The program's New, as it is called. -/
import Derived.Test.YtnjaofkieajnlaaGreatPBox5
namespace Go.Proofs.YtnjaofkieajnlaaGreat
open Go.RowKit

theorem built_rbox (K n z : Nat) (T : Nat → Nat) : Tryz.prog.built 110 [(0, .agg (newV K n z T))] = some (newV K n z T) := by kernel_rfl

noncomputable def builtAt (parts : Array (Nat × Value)) : Sem Value := Instr.build 110 parts

theorem build_mask2 (parts : Array (Nat × Value)) : Instr.build 110 parts = builtAt parts := rfl

attribute [local go_sem ↓] build_mask2

theorem newBox_at (w : World) (K n z : Nat) (T : Nat → Nat) : BoxAt (w.alloc (.cells (newV K n z T) 110)) w.heap.size K n z T kn0 :=
  ⟨_, heap_alloc_new w _, newV_size K n z T, fun i hi => newV_get K n z T i hi⟩

set_option maxRecDepth 100000 in
set_option maxHeartbeats 4000000 in
theorem new_ok (K M O S z : Nat) (w : World) (hK : 1 ≤ K ∧ K ≤ 20) (hM : 1 ≤ M ∧ M ≤ 20) (hO : 1 ≤ O ∧ O ≤ M) (hS : S ≤ 65535) (hz : 1 ≤ z ∧ z ≤ 16) :
    Calls Tryz.prog 23 #[specV K M O S, .int .i64 (z : Int)] w fun e w' => ∃ p, e = .returned (.tuple #[.pointer (some ⟨p, 0, none⟩), .int .i64 0]) ∧ BoxAt w' p K (K + M) z (ofs K M O S) kn0 ∧ w.heap.size ≤ p ∧ Below w.heap.size w w' := by
  have hbx := fun w => newBox_at w K (K + M) z (ofs K M O S)
  have hb : ∀ w, (builtAt #[(0, .agg (newL K (K + M) z (ofs K M O S)).toArray)]).run Tryz.prog w = .ok (.agg (newL K (K + M) z (ofs K M O S)).toArray) w := fun w => run_build (P := Tryz.prog) w 110 #[_] _ (built_rbox K (K + M) z (ofs K M O S))
  have hzb : ∀ w, (zeroValue 85).run Tryz.prog w = .ok (.agg zeroL.toArray) w := zero_box
  have hsz := newL_length K (K + M) z (ofs K M O S)
  have hone := newL_one K (K + M) z (ofs K M O S)
  have hnew := bnew_ok K M O S z
  unfold newV at hbx hnew
  generalize newL K (K + M) z (ofs K M O S) = cs at *
  have hzl : zeroL.length = 83 := newL_length 0 0 0 (fun _ => 0)
  generalize zeroL = zs at *
  have hi : (Tryz.prog.info? 85).map (·.size) = some cs.length := by rw [hsz]; exact Tryz.sizeBox
  go_enter Tryz.func23, Tryz.ntmps23
  go_wp2_with fail
  refine (hnew _ hK hM hO hS hz).mono ?_
  rintro e w1 ⟨rfl, hb1⟩
  have ht : (w1.alloc (.cells zs.toArray 85)).there w1.heap.size 0 83 := by
    have h := there_of_row (heap_alloc_new w1 (.cells zs.toArray 85))
    rwa [show zs.toArray.size = 83 from by simp [hzl]] at h
  have hst := storeCells_run w1.heap.size cs (w1.alloc (.cells zs.toArray 85)) (by rw [hsz]; exact ht) hone
  have hr := World.rangeAt_setCells_same (w1.alloc (.cells zs.toArray 85)) w1.heap.size 0 cs (by rw [hsz]; exact ht)
  have hbW : Below w.heap.size w ((w1.alloc (.cells zs.toArray 85)).setCells w1.heap.size 0 cs) := by
    have h0 : Below w.heap.size w w1 := ((Below.refl w.heap.size w).alloc (Nat.le_refl _) _).trans (hb1.mono (by simp))
    exact below_setCells (h0.alloc h0.size _) h0.size _ _
  generalize hW : (w1.alloc (.cells zs.toArray 85)).setCells w1.heap.size 0 cs = W at *
  clear ht hb1 hnew hone hW
  go_wp2_with (refine wpList_load_mid rfl 85 (.tmp 6) rfl w1.heap.size 0 rfl cs _ hr Tryz.underlying85 rfl hi ?_)
  go_ret2
  exact ⟨_, rfl, hbx W, hbW.size, hbW.alloc hbW.size _⟩

set_option maxRecDepth 100000 in
set_option maxHeartbeats 4000000 in
theorem new_bad (K M O S z : Int) (w : World) (hmay : mayB K M O S = false) :
    Calls Tryz.prog 23 #[specV K M O S, .int .i64 z] w fun e w' => e = .returned (.tuple #[.pointer none, .int .i64 1]) ∧ Below w.heap.size w w' := by
  have hzb : ∀ w, (zeroValue 85).run Tryz.prog w = .ok (.agg zeroL.toArray) w := zero_box
  have hzl : zeroL.length = 83 := newL_length 0 0 0 (fun _ => 0)
  have hnew := bnew_bad K M O S z
  have hone : ∀ v ∈ zeroL, v.oneCell' = true := newL_one 0 0 0 (fun _ => 0)
  generalize zeroL = zs at *
  go_enter Tryz.func23, Tryz.ntmps23
  go_wp2_with fail
  refine (hnew _ hmay).mono ?_
  rintro e w1 ⟨rfl, hb1⟩
  have ht : (w1.alloc (.cells zs.toArray 85)).there w1.heap.size 0 83 := by
    have h := there_of_row (heap_alloc_new w1 (.cells zs.toArray 85))
    rwa [show zs.toArray.size = 83 from by simp [hzl]] at h
  have hst := storeCells_run w1.heap.size zs (w1.alloc (.cells zs.toArray 85)) (by rw [hzl]; exact ht) hone
  have hbW : Below w.heap.size w ((w1.alloc (.cells zs.toArray 85)).setCells w1.heap.size 0 zs) := by
    have h0 : Below w.heap.size w w1 := ((Below.refl w.heap.size w).alloc (Nat.le_refl _) _).trans (hb1.mono (by simp))
    exact below_setCells (h0.alloc h0.size _) h0.size _ _
  generalize hW : (w1.alloc (.cells zs.toArray 85)).setCells w1.heap.size 0 zs = W at *
  clear ht hb1 hnew hone hW
  go_wp2_with fail
  go_ret2
  exact ⟨rfl, hbW⟩

set_option maxRecDepth 100000 in
set_option maxHeartbeats 4000000 in
theorem new_arg (K M O S : Nat) (z : Int) (w : World) (hK : 1 ≤ K ∧ K ≤ 20) (hM : 1 ≤ M ∧ M ≤ 20) (hO : 1 ≤ O ∧ O ≤ M) (hS : S ≤ 65535) (hz : z < 1 ∨ 16 < z) :
    Calls Tryz.prog 23 #[specV K M O S, .int .i64 z] w fun e w' => e = .returned (.tuple #[.pointer none, .int .i64 2]) ∧ Below w.heap.size w w' := by
  have hzb : ∀ w, (zeroValue 85).run Tryz.prog w = .ok (.agg zeroL.toArray) w := zero_box
  have hzl : zeroL.length = 83 := newL_length 0 0 0 (fun _ => 0)
  have hnew := bnew_arg K M O S z
  have hone : ∀ v ∈ zeroL, v.oneCell' = true := newL_one 0 0 0 (fun _ => 0)
  generalize zeroL = zs at *
  go_enter Tryz.func23, Tryz.ntmps23
  go_wp2_with fail
  refine (hnew _ hK hM hO hS hz).mono ?_
  rintro e w1 ⟨rfl, hb1⟩
  have ht : (w1.alloc (.cells zs.toArray 85)).there w1.heap.size 0 83 := by
    have h := there_of_row (heap_alloc_new w1 (.cells zs.toArray 85))
    rwa [show zs.toArray.size = 83 from by simp [hzl]] at h
  have hst := storeCells_run w1.heap.size zs (w1.alloc (.cells zs.toArray 85)) (by rw [hzl]; exact ht) hone
  have hbW : Below w.heap.size w ((w1.alloc (.cells zs.toArray 85)).setCells w1.heap.size 0 zs) := by
    have h0 : Below w.heap.size w w1 := ((Below.refl w.heap.size w).alloc (Nat.le_refl _) _).trans (hb1.mono (by simp))
    exact below_setCells (h0.alloc h0.size _) h0.size _ _
  generalize hW : (w1.alloc (.cells zs.toArray 85)).setCells w1.heap.size 0 zs = W at *
  clear ht hb1 hnew hone hW
  go_wp2_with fail
  go_ret2
  exact ⟨rfl, hbW⟩

end Go.Proofs.YtnjaofkieajnlaaGreat
