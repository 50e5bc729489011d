/- Texts of the proof, part 16. -/
import Derived.BigRegion
import Derived.Deep.MidRow
import Derived.Deep.RegionHeld3
import Derived.Test.YtnjaofkieajnlabPostedG11
import Derived.Test.YtnjaofkieajnlabPostedG14
import Derived.Test.YtnjaofkieajnlabPostedG3
import Derived.Test.YtnjaofkieajnlabPostedG6

/- The program's read of a sheet. -/
namespace Go.Proofs.Ytnjaofkieajnlab
open Go.RowKit

/-- The cells of a sheet. -/
abbrev shC (a c K M O S z i : Int) (q : ByteArray) : Array Value := #[.int .i64 a, .int .i64 c, .int .i64 K, .int .i64 M, .int .i64 O, .int .i64 S, .int .i64 z, .int .i64 i, .string q]

abbrev sh0 : Array Value := shC 0 0 0 0 0 0 0 0 ⟨#[]⟩

theorem Try.sizeSh : (Try.prog.info? 95).map (·.size) = some 9 := by kernel_rfl

theorem sh_one (a c K M O S z i : Int) (p : ByteArray) : (shC a c K M O S z i p).all (fun x => x.oneCell') = true := by
  simp [Value.oneCell']

theorem results_lread (tmps : Array Value) (w : World) (g : Nat) (a c K M O S z i : Int) (q : ByteArray) (fr : Nat × Nat) (hp : tmps.getD 2 undef = .pointer (some ⟨g, 0, none⟩)) (hg : w.heap[g]? = some (.cells (shC a c K M O S z i q) 95 fr)) :
    (results Try.f58 tmps).run Try.prog w = .ok (.tuple #[.agg (shC a c K M O S z i q), tmps.getD 3 undef]) w := by
  have hl := run_loadVar_row (P := Try.prog) w g 95 95 _ fr _ hg Try.underlying95 rfl Try.sizeSh
  have hp' : tmps[2]?.getD undef = .pointer (some ⟨g, 0, none⟩) := by simpa using hp
  simp [results, Try.results58, hp', asAddr, hl]

/-- 'build' at a sheet, kept whole. -/
noncomputable def builtSh (parts : Array (Nat × Value)) : Sem Value := Instr.build 95 parts

theorem build_maskSh (parts : Array (Nat × Value)) : Instr.build 95 parts = builtSh parts := rfl

theorem sh_build (a c K M O S z i : Int) (q : ByteArray) (w : World) : (builtSh #[(0, .int .i64 a), (1, .int .i64 c), (2, .agg (pkC K M O S z i q))]).run Try.prog w = .ok (.agg (shC a c K M O S z i q)) w :=
  run_build (P := Try.prog) w 95 #[(0, .int .i64 a), (1, .int .i64 c), (2, .agg (pkC K M O S z i q))] _ (by kernel_rfl)

theorem sh_build0 (w : World) : (builtSh #[]).run Try.prog w = .ok (.agg sh0) w :=
  run_build (P := Try.prog) w 95 #[] sh0 (by kernel_rfl)

attribute [local go_sem ↓] build_maskSh

set_option maxRecDepth 100000 in
set_option maxHeartbeats 8000000 in
theorem lread_head (t : ByteArray) (w : World) (h : (t.size : Int) < 3 ∨ (3 ≤ t.size ∧ byteAt t 0 ≠ 83) ∨ (3 ≤ t.size ∧ byteAt t 0 = 83 ∧ (20 < tN t ∨ (tN t ≤ 20 ∧ tN t ≤ tP t)))) :
    Calls Try.prog 58 #[.string t] w fun e w' => e = .returned (.tuple #[.agg sh0, .bool false]) ∧ Below w.heap.size w w' := by
  have hbA : Below w.heap.size w (w.alloc (.cells sh0 95)) := (Below.refl _ _).alloc (Nat.le_refl _) _
  have hres : (w.alloc (.cells sh0 95)).heap[w.heap.size]? = some (.cells sh0 95 (0, 0)) := heap_alloc_new w _
  have hone := sh_one 0 0 0 0 0 0 0 0 ⟨#[]⟩
  have hb0 := sh_build0
  have hf1 := setRow_heap _ _ _ sh0 _ _ hres
  have hf2 : Below w.heap.size w ((w.alloc (.cells sh0 95)).setRow w.heap.size sh0) := ((Chg.of_below hbA (fun _ => False)).setRow (Or.inl (Nat.le_refl _)) _).below (fun _ _ f => f)
  have hf1n : ∀ n, ((w.alloc (.cells sh0 95)).drewN n).heap[w.heap.size]? = some (.cells sh0 95 (0, 0)) := fun n => hres
  have Hf1 := hide hf1
  have Hf2 := hide hf2
  have Hres := hide hres
  have Hn := hide hf1n
  clear hf1 hf2 hres hf1n
  rcases h with h | ⟨h3, h0⟩ | ⟨h3, h0, h⟩
  · go_enter Try.func58, Try.ntmps58
    go_wp2_with (first | (refine wpList_store_row rfl 95 (.tmp 2) (.tmp 16) rfl w.heap.size sh0 rfl rfl 95 sh0 Hres.out Try.sizeSh rfl hone ?_))
    exact bodyPost_ret (results_lread _ _ w.heap.size 0 0 0 0 0 0 0 0 _ _ rfl Hf1.out) rfl ⟨rfl, Hf2.out⟩
  · have hl1 : ¬ (t.size : Int) < 3 := by omega
    have g0 := byteAt_get t 0 (by omega)
    have i0 : (0 : Int) < (t.size : Int) := by omega
    have b0 := (byteAt t 0).toNat_lt
    have h0b : (((byteAt t 0).toNat : Int) != 83) = true := by
      simp only [bne_iff_ne, ne_eq]
      intro e
      exact h0 (UInt8.toNat_inj.1 (by show (byteAt t 0).toNat = 83; omega))
    clear h0
    go_enter Try.func58, Try.ntmps58
    go_wp2_with (first | (refine wpList_store_row rfl 95 (.tmp 2) (.tmp 16) rfl w.heap.size sh0 rfl rfl 95 sh0 Hres.out Try.sizeSh rfl hone ?_))
    exact bodyPost_ret (results_lread _ _ w.heap.size 0 0 0 0 0 0 0 0 _ _ rfl Hf1.out) rfl ⟨rfl, Hf2.out⟩
  · have g0 := byteAt_get t 0 (by omega)
    have g1 := byteAt_get t 1 (by omega)
    have g2 := byteAt_get t 2 (by omega)
    have b1 := (byteAt t 1).toNat_lt
    have b2 := (byteAt t 2).toNat_lt
    have i0 : (0 : Int) < (t.size : Int) := by omega
    have i1 : (1 : Int) < (t.size : Int) := by omega
    have i2 : (2 : Int) < (t.size : Int) := by omega
    have hl1 : ¬ (t.size : Int) < 3 := by omega
    have h1 : (((byteAt t 0).toNat : Int) != 83) = false := by rw [h0]; rfl
    have hor : (20 : Int) < ((byteAt t 2).toNat : Int) ∨ (¬ (20 : Int) < ((byteAt t 2).toNat : Int) ∧ ((byteAt t 2).toNat : Int) ≤ ((byteAt t 1).toNat : Int)) := by
      unfold tN tP at h
      omega
    clear h h0
    go_enter Try.func58, Try.ntmps58
    go_upto_region 3 with fail
    generalize w.alloc (.cells sh0 95) = W at *
    go_cut [4, 5] (fun s4 s5 wc => s4 = .int .i64 ((byteAt t 1).toNat : Int) ∧ s5 = .int .i64 ((byteAt t 2).toNat : Int) ∧ ∃ n, wc = W.drewN n)
    case first =>
      go_quiet (fail)
      go_wp2_with fail
      go_meet
      case rel => exact ⟨rfl, rfl, _, rfl⟩
    case rest =>
    obtain ⟨rfl, rfl, nq, rfl⟩ := hcut
    have hresN := Hn.out nq
    have hbN : Below w.heap.size w (W.drewN nq) := hbA.trans ⟨rfl, rfl, rfl, Nat.le_refl _, fun _ _ => rfl⟩
    have hf1 := setRow_heap _ _ _ sh0 _ _ hresN
    have hf2 : Below w.heap.size w ((W.drewN nq).setRow w.heap.size sh0) := ((Chg.of_below hbN (fun _ => False)).setRow (Or.inl (Nat.le_refl _)) _).below (fun _ _ f => f)
    have HF1 := hide hf1
    have HF2 := hide hf2
    have HR := hide hresN
    generalize W.drewN nq = V at *
    clear hf1 hf2 hresN hbN Hn Hf1 Hf2 Hres hbA g0 g1 g2
    rcases hor with h | ⟨h, h'⟩
    all_goals
      go_wp2_with (first | (refine wpList_store_row rfl 95 (.tmp 2) (.tmp 30) rfl w.heap.size sh0 rfl rfl 95 sh0 HR.out Try.sizeSh rfl hone ?_))
      exact bodyPost_ret (results_lread _ _ w.heap.size 0 0 0 0 0 0 0 0 _ _ rfl HF1.out) rfl ⟨rfl, HF2.out⟩

set_option maxRecDepth 100000 in
set_option maxHeartbeats 8000000 in
theorem lread_packet (t : ByteArray) (w : World) (h : 3 ≤ t.size ∧ byteAt t 0 = 83 ∧ 1 ≤ tN t ∧ tN t ≤ 20 ∧ tP t < tN t) :
    Calls Try.prog 58 #[.string t] w fun e w' => ((PacketOk (tQ t) → e = .returned (.tuple #[.agg (shC (tP t : Int) (tN t : Int) (rK (tQ t)) (rM (tQ t)) (rO (tQ t)) (rS (tQ t)) (rZ (tQ t)) (rI (tQ t)) (rQ (tQ t))), .bool true])) ∧ (¬ PacketOk (tQ t) → e = .returned (.tuple #[.agg sh0, .bool false]))) ∧ Below w.heap.size w w' := by
  have hbA : Below w.heap.size w (w.alloc (.cells sh0 95)) := (Below.refl _ _).alloc (Nat.le_refl _) _
  have hres : (w.alloc (.cells sh0 95)).heap[w.heap.size]? = some (.cells sh0 95 (0, 0)) := heap_alloc_new w _
  have hone0 := sh_one 0 0 0 0 0 0 0 0 ⟨#[]⟩
  have hb0 := sh_build0
  have hyes := fun W h => pread_ok (tQ t) W h
  have hnot := fun W h => pread_no (tQ t) W h
  obtain ⟨h4, e0, n1, n2, n3⟩ := h
  have htq : tQ t = t.extract 3 t.size := rfl
  have htn : tN t = (byteAt t 2).toNat := rfl
  have htp : tP t = (byteAt t 1).toNat := rfl
  have g0 := byteAt_get t 0 (by omega)
  have g1 := byteAt_get t 1 (by omega)
  have g2 := byteAt_get t 2 (by omega)
  have b1 := (byteAt t 1).toNat_lt
  have b2 := (byteAt t 2).toNat_lt
  have i0 : (0 : Int) < (t.size : Int) := by omega
  have i1 : (1 : Int) < (t.size : Int) := by omega
  have i2 : (2 : Int) < (t.size : Int) := by omega
  have i3 : (3 : Int) ≤ (t.size : Int) := by omega
  have hl1 : ¬ (t.size : Int) < 3 := by omega
  have h1 : (((byteAt t 0).toNat : Int) != 83) = false := by rw [e0]; rfl
  rw [htn] at n1 n2 n3
  rw [htp] at n3
  have h2 : ¬ (20 : Int) < ((byteAt t 2).toNat : Int) := by omega
  have h5 : ¬ ((byteAt t 2).toNat : Int) ≤ ((byteAt t 1).toNat : Int) := by omega
  rw [htn, htp]
  rw [htq] at hyes hnot ⊢
  clear htn htp htq n1 n2 n3 e0
  generalize hE : t.extract 3 t.size = E at *
  have HE := hide hE
  clear hE
  generalize (rK E : Int) = K at *
  generalize (rM E : Int) = M at *
  generalize (rO E : Int) = O at *
  generalize (rS E : Int) = S at *
  generalize (rZ E : Int) = z at *
  generalize (rI E : Int) = i at *
  generalize rQ E = q at *
  go_enter Try.func58, Try.ntmps58
  go_upto_region 3 with fail
  generalize w.alloc (.cells sh0 95) = W at *
  go_cut [4, 5] (fun s4 s5 wc => s4 = .int .i64 ((byteAt t 1).toNat : Int) ∧ s5 = .int .i64 ((byteAt t 2).toNat : Int) ∧ ∃ n, wc = W.drewN n)
  case first =>
    go_quiet (fail)
    go_wp2_with fail
    go_meet
    case rel => exact ⟨rfl, rfl, _, rfl⟩
  case rest =>
  obtain ⟨rfl, rfl, nq, rfl⟩ := hcut
  have hresN : (W.drewN nq).heap[w.heap.size]? = some (.cells sh0 95 (0, 0)) := hres
  have hbN : Below w.heap.size w (W.drewN nq) := hbA.trans ⟨rfl, rfl, rfl, Nat.le_refl _, fun _ _ => rfl⟩
  generalize W.drewN nq = V at *
  clear hres hbA g0 g1 g2 h1
  by_cases hpk : PacketOk E
  · go_wp2_with (rw [HE.out])
    refine (hyes _ hpk).mono ?_
    rintro e w1 ⟨rfl, hb1⟩
    have hres1 := block_on hresN hb1
    have hbw1 := hbN.trans (hb1.mono hbN.size)
    have hrl := (Array.getElem?_eq_some_iff.1 hres1).1
    clear hresN hbN hb1 hyes hnot hb0
    have hone := sh_one ((byteAt t 1).toNat : Int) ((byteAt t 2).toNat : Int) K M O S z i q
    have hbu := sh_build ((byteAt t 1).toNat : Int) ((byteAt t 2).toNat : Int) K M O S z i q
    have hresB : (w1.alloc (.cells (pkC K M O S z i q) 84)).heap[w.heap.size]? = some (.cells sh0 95 (0, 0)) := by rw [heap_alloc_old _ _ hrl]; exact hres1
    have hbB : Below w.heap.size w (w1.alloc (.cells (pkC K M O S z i q) 84)) := hbw1.alloc hbw1.size _
    have hpkB : (w1.alloc (.cells (pkC K M O S z i q) 84)).heap[w1.heap.size]? = some (.cells (pkC K M O S z i q) 84 (0, 0)) := heap_alloc_new w1 _
    have hf1 := setRow_heap _ _ _ (shC ((byteAt t 1).toNat : Int) ((byteAt t 2).toNat : Int) K M O S z i q) _ _ hresB
    have hf2 : Below w.heap.size w ((w1.alloc (.cells (pkC K M O S z i q) 84)).setRow w.heap.size (shC ((byteAt t 1).toNat : Int) ((byteAt t 2).toNat : Int) K M O S z i q)) := ((Chg.of_below hbB (fun _ => False)).setRow (Or.inl (Nat.le_refl _)) _).below (fun _ _ f => f)
    have HF1 := hide hf1
    have HF2 := hide hf2
    have HR := hide hresB
    have HP := hide hpk
    clear hf1 hf2 hresB hbB hbw1 hres1 hpk
    go_upto_region 9 with fail
    generalize w1.alloc (.cells (pkC K M O S z i q) 84) = U at *
    obtain ⟨c0, c1, c2, c3, c4, c5, c6⟩ := pk_cells hpkB
    go_wp2_with (first | (refine wpList_store_row rfl 95 (.tmp 2) (.tmp 43) rfl w.heap.size (shC ((byteAt t 1).toNat : Int) ((byteAt t 2).toNat : Int) K M O S z i q) rfl rfl 95 sh0 HR.out Try.sizeSh rfl hone ?_))
    exact bodyPost_ret (results_lread _ _ w.heap.size _ _ K M O S z i _ _ rfl HF1.out) rfl ⟨⟨fun _ => rfl, fun h => absurd HP.out h⟩, HF2.out⟩
  · go_wp2_with (rw [HE.out])
    refine (hnot _ hpk).mono ?_
    rintro e w1 ⟨rfl, hb1⟩
    have hres1 := block_on hresN hb1
    have hbw1 := hbN.trans (hb1.mono hbN.size)
    have hrl := (Array.getElem?_eq_some_iff.1 hres1).1
    clear hresN hbN hb1 hyes hnot
    have hresB : (w1.alloc (.cells pk0 84)).heap[w.heap.size]? = some (.cells sh0 95 (0, 0)) := by rw [heap_alloc_old _ _ hrl]; exact hres1
    have hbB : Below w.heap.size w (w1.alloc (.cells pk0 84)) := hbw1.alloc hbw1.size _
    have hf1 := setRow_heap _ _ _ sh0 _ _ hresB
    have hf2 : Below w.heap.size w ((w1.alloc (.cells pk0 84)).setRow w.heap.size sh0) := ((Chg.of_below hbB (fun _ => False)).setRow (Or.inl (Nat.le_refl _)) _).below (fun _ _ f => f)
    have HF1 := hide hf1
    have HF2 := hide hf2
    have HR := hide hresB
    have HP := hide hpk
    clear hf1 hf2 hresB hbB hbw1 hres1 hpk
    go_upto_region 7 with fail
    generalize w1.alloc (.cells pk0 84) = U at *
    go_wp2_with (first | (refine wpList_store_row rfl 95 (.tmp 2) (.tmp 39) rfl w.heap.size sh0 rfl rfl 95 sh0 HR.out Try.sizeSh rfl hone0 ?_))
    exact bodyPost_ret (results_lread _ _ w.heap.size 0 0 0 0 0 0 0 0 _ _ rfl HF1.out) rfl ⟨⟨fun h => absurd h HP.out, fun _ => rfl⟩, HF2.out⟩

theorem lread_yes (t : ByteArray) (w : World) (h : headOk t) (hp : PacketOk (tQ t)) :
    Calls Try.prog 58 #[.string t] w fun e w' => e = .returned (.tuple #[.agg (shC (tP t : Int) (tN t : Int) (rK (tQ t)) (rM (tQ t)) (rO (tQ t)) (rS (tQ t)) (rZ (tQ t)) (rI (tQ t)) (rQ (tQ t))), .bool true]) ∧ Below w.heap.size w w' := by
  obtain ⟨h4, h0, h1, h2, h3⟩ := h
  exact (lread_packet t w ⟨by omega, h0, h1, h2, h3⟩).mono fun e w' hh => ⟨hh.1.1 hp, hh.2⟩

theorem lread_not (t : ByteArray) (w : World) (h : ¬ (headOk t ∧ PacketOk (tQ t))) :
    Calls Try.prog 58 #[.string t] w fun e w' => e = .returned (.tuple #[.agg sh0, .bool false]) ∧ Below w.heap.size w w' := by
  by_cases h3 : 3 ≤ t.size
  · by_cases h0 : byteAt t 0 = 83
    · by_cases h1 : 20 < tN t ∨ (tN t ≤ 20 ∧ tN t ≤ tP t)
      · exact lread_head t w (Or.inr (Or.inr ⟨h3, h0, h1⟩))
      · refine (lread_packet t w ⟨h3, h0, by omega, by omega, by omega⟩).mono fun e w' hh => ⟨hh.1.2 (fun hp => h ⟨⟨?_, h0, by omega, by omega, by omega⟩, hp⟩), hh.2⟩
        have hs : (tQ t).size = t.size - 3 := by unfold tQ; rw [ByteArray.size_extract]; omega
        have := hp.1
        omega
    · exact lread_head t w (Or.inr (Or.inl ⟨h3, h0⟩))
  · exact lread_head t w (Or.inl (by omega))

end Go.Proofs.Ytnjaofkieajnlab

/- The program's inbox: a further sheet. -/
namespace Go.Proofs.Ytnjaofkieajnlab
open Go.RowKit

theorem sh_cells {w : World} {g : Nat} {a c K M O S z i : Int} {q : ByteArray} {t : TypeId} (h : w.heap[g]? = some (.cells (shC a c K M O S z i q) t (0, 0))) :
    w.cell? ⟨g, 0, none⟩ = some (.int .i64 a) ∧ w.cell? ⟨g, 1, none⟩ = some (.int .i64 c) ∧ w.cell? ⟨g, 2, none⟩ = some (.int .i64 K) ∧ w.cell? ⟨g, 3, none⟩ = some (.int .i64 M) ∧ w.cell? ⟨g, 4, none⟩ = some (.int .i64 O) ∧ w.cell? ⟨g, 5, none⟩ = some (.int .i64 S) ∧ w.cell? ⟨g, 6, none⟩ = some (.int .i64 z) ∧ w.cell? ⟨g, 7, none⟩ = some (.int .i64 i) ∧ w.cell? ⟨g, 8, none⟩ = some (.string q) := by
  refine ⟨?_, ?_, ?_, ?_, ?_, ?_, ?_, ?_, ?_⟩ <;> rw [cell_of_row _ _ _ _ _ _ h] <;> rfl

abbrev shB (a c K M O S z i : Int) (q : ByteArray) : Obj := .cells (shC a c K M O S z i q) 95
abbrev pkB (K M O S z i : Int) (q : ByteArray) : Obj := .cells (pkC K M O S z i q) 84

set_option maxRecDepth 100000 in
set_option maxHeartbeats 4000000 in
theorem lnext_other (p : Nat) (tt : TypeId) (c K M O S z m : Nat) (ks : Nat → Kn) (a c' K' M' O' S' z' i : Nat) (q : ByteArray) (w : World) (hc : InbAt w p tt c K M O S z m ks) (hno : ¬ (K' = K ∧ M' = M ∧ O' = O ∧ S' = S ∧ z' = z ∧ c' = c)) :
    Calls Try.prog 60 #[.pointer (some ⟨p, 0, none⟩), .agg (shC a c' K' M' O' S' z' i q)] w fun e w' => e = .returned (.int .i64 7) ∧ Below w.heap.size w w' := by
  have hbA : Below w.heap.size w ((w.alloc (shB a c' K' M' O' S' z' i q)).alloc (pkB K' M' O' S' z' i q)) := ((Below.refl _ _).alloc (Nat.le_refl _) _).alloc (by simp) _
  have hcA := hc.on (Nat.le_refl _) hbA
  have hsh := sh_cells (show ((w.alloc (shB a c' K' M' O' S' z' i q)).alloc (pkB K' M' O' S' z' i q)).heap[w.heap.size]? = some (.cells (shC a c' K' M' O' S' z' i q) 95 (0, 0)) by rw [heap_alloc_old _ _ (by simp)]; exact heap_alloc_new w _)
  have hpk := pk_cells (show ((w.alloc (shB a c' K' M' O' S' z' i q)).alloc (pkB K' M' O' S' z' i q)).heap[w.heap.size + 1]? = some (.cells (pkC K' M' O' S' z' i q) 84 (0, 0)) by have := heap_alloc_new (w.alloc (shB a c' K' M' O' S' z' i q)) (pkB K' M' O' S' z' i q); simpa using this)
  go_enter Try.func60, Try.ntmps60
  go_upto_region 2 with fail
  generalize (w.alloc (shB a c' K' M' O' S' z' i q)).alloc (pkB K' M' O' S' z' i q) = W at *
  obtain ⟨d0, d1, d2, d3, d4, d5⟩ := hcA.head
  obtain ⟨c0, c1, c2, c3, c4, c5, c6⟩ := hpk
  obtain ⟨s0, s1, _⟩ := hsh
  have hbf : ∀ n, Below w.heap.size w (W.drewN n) := fun n => hbA.trans ⟨rfl, rfl, rfl, Nat.le_refl _, fun _ _ => rfl⟩
  clear hc hcA hbA
  by_cases e1 : K' = K ∧ M' = M ∧ O' = O ∧ S' = S
  · by_cases e2 : z' = z
    · have hzz : ((c' : Int) != (c : Int)) = true := by simp; intro e; exact hno ⟨e1.1, e1.2.1, e1.2.2.1, e1.2.2.2, e2, by omega⟩
      obtain ⟨rfl, rfl, rfl, rfl⟩ := e1
      subst e2
      clear hno
      go_quiet (fail)
      go_wp2_with fail
      go_ret
      exact ⟨rfl, hbf _⟩
    · have hzz : ((z' : Int) != (z : Int)) = true := by simp; omega
      obtain ⟨rfl, rfl, rfl, rfl⟩ := e1
      clear hno e2
      go_quiet (fail)
      go_wp2_with fail
      go_ret
      exact ⟨rfl, hbf _⟩
  · have hor : ((K' : Int) == (K : Int)) = false ∨ (K' = K ∧ ((M' : Int) == (M : Int)) = false) ∨ (K' = K ∧ M' = M ∧ ((O' : Int) == (O : Int)) = false) ∨ (K' = K ∧ M' = M ∧ O' = O ∧ ((S' : Int) == (S : Int)) = false) := by
      simp only [beq_eq_false_iff_ne, ne_eq, Int.natCast_inj]
      omega
    clear hno e1
    rcases hor with h | ⟨rfl, h⟩ | ⟨rfl, rfl, h⟩ | ⟨rfl, rfl, rfl, h⟩
    all_goals
      go_quiet (fail)
      go_wp2_with fail
      go_ret
      exact ⟨rfl, hbf _⟩

set_option maxRecDepth 100000 in
set_option maxHeartbeats 4000000 in
theorem lnext_put (p : Nat) (tt : TypeId) (c K M O S z m : Nat) (ks : Nat → Kn) (a i : Nat) (q : ByteArray) (w : World) (ha : a < m) (ha2 : a < 20) (hK : K ≤ 20) (hM : M ≤ 20) (hkn : KnOk K z (ks a)) (hz : z ≤ 16) (hi : i < K + M) (hq : q.size = z) (hc : InbAt w p tt c K M O S z m ks) :
    Calls Try.prog 60 #[.pointer (some ⟨p, 0, none⟩), .agg (shC a c K M O S z i q)] w fun e w' => e = .returned (.int .i64 (putE (left (ks a) (ofs K M O S i) q) z)) ∧ InbAt w' p tt c K M O S z m (fun j => if j = a then putK (ks a) (ofs K M O S i) q else ks j) ∧ Chg (fun k => k = p) w w' := by
  have hbA : Chg (fun k => k = p) w ((w.alloc (shB a c K M O S z i q)).alloc (pkB K M O S z i q)) := ((Chg.refl _ _).alloc _).alloc _
  have hbB : Below w.heap.size w ((w.alloc (shB a c K M O S z i q)).alloc (pkB K M O S z i q)) := ((Below.refl _ _).alloc (Nat.le_refl _) _).alloc (by simp) _
  have hcA := hc.on (Nat.le_refl _) hbB
  have hsz : ((w.alloc (shB a c K M O S z i q)).alloc (pkB K M O S z i q)).heap.size = w.heap.size + 2 := by simp
  have hsh := sh_cells (show ((w.alloc (shB a c K M O S z i q)).alloc (pkB K M O S z i q)).heap[w.heap.size]? = some (.cells (shC a c K M O S z i q) 95 (0, 0)) by rw [heap_alloc_old _ _ (by simp)]; exact heap_alloc_new w _)
  have hpk := pk_cells (show ((w.alloc (shB a c K M O S z i q)).alloc (pkB K M O S z i q)).heap[w.heap.size + 1]? = some (.cells (pkC K M O S z i q) 84 (0, 0)) by have := heap_alloc_new (w.alloc (shB a c K M O S z i q)) (pkB K M O S z i q); simpa using this)
  have hpl := hc.lt
  have hput : ∀ W, BoxOff W p (6 + a * 83) 1666 tt (inbCell c K M O S z m ks) K (K + M) z (ofs K M O S) (ks a) → Calls Try.prog 31 #[.pointer (some ⟨p, 6 + a * 83, none⟩), .int .i64 (i : Int), .string q] W fun e w' => e = .returned (.int .i64 (putE (left (ks a) (ofs K M O S i) q) z)) ∧ InbAt w' p tt c K M O S z m (fun j => if j = a then putK (ks a) (ofs K M O S i) q else ks j) ∧ Chg (fun k => k = p) W w' := fun W hW =>
    (qput_ok p (6 + a * 83) 1666 tt _ K (K + M) z i q (ofs K M O S) (ks a) W hK hkn (ofs_lt K M O S) (by omega) (by omega) hi hq hW).mono fun e w' ⟨h1, h2, h3⟩ => ⟨h1, InbAt.of_box ha h2, h3⟩
  obtain ⟨ee, he⟩ : ∃ ee, ee = putE (left (ks a) (ofs K M O S i) q) z := ⟨_, rfl⟩
  obtain ⟨k2, hk2⟩ : ∃ k2 : Nat → Kn, k2 = fun j => if j = a then putK (ks a) (ofs K M O S i) q else ks j := ⟨_, rfl⟩
  rw [← he, ← hk2] at hput ⊢
  have a1 : (0 : Int) ≤ (a : Int) := by omega
  have a2 : (a : Int) < 20 := by omega
  clear he hk2
  go_enter Try.func60, Try.ntmps60
  go_upto_region 2 with fail
  generalize (w.alloc (shB a c K M O S z i q)).alloc (pkB K M O S z i q) = W at *
  obtain ⟨d0, d1, d2, d3, d4, d5⟩ := hcA.head
  obtain ⟨c0, c1, c2, c3, c4, c5, c6⟩ := hpk
  obtain ⟨s0, s1, _⟩ := hsh
  have hbox := hcA.box ha ha2
  clear hc hcA hbB
  go_quiet (fail)
  have hboxN : BoxOff (W.drewN nq) p (6 + a * 83) 1666 tt (inbCell c K M O S z m ks) K (K + M) z (ofs K M O S) (ks a) := hbox
  have c5N : (W.drewN nq).cell? ⟨w.heap.size + 1, 5, none⟩ = some (.int .i64 (i : Int)) := c5
  have c6N : (W.drewN nq).cell? ⟨w.heap.size + 1, 6, none⟩ = some (.string q) := c6
  have s0N : (W.drewN nq).cell? ⟨w.heap.size, 0, none⟩ = some (.int .i64 (a : Int)) := s0
  have hbN := hbA.drewN nq
  have hszN : (W.drewN nq).heap.size = w.heap.size + 2 := hsz
  generalize W.drewN nq = V at *
  clear c0 c1 c2 c3 c4 c5 c6 hbox hbA d0 d1 d2 d3 d4 d5 hsz s0 s1
  have hboxD : BoxOff V.drew p (6 + a * 83) 1666 tt (inbCell c K M O S z m ks) K (K + M) z (ofs K M O S) (ks a) := hboxN
  go_wp2_with fail
  go_region_held3 (fun w' => w'.cell? ⟨w.heap.size, 0, none⟩ = some (.int .i64 (a : Int)) ∧ w'.cell? ⟨w.heap.size + 1, 5, none⟩ = some (.int .i64 (i : Int)) ∧ w'.cell? ⟨w.heap.size + 1, 6, none⟩ = some (.string q))
    (first | (exact ⟨s0N, c5N, c6N⟩) | (exact ⟨j2, j0, j1⟩) | go_keep)
    (first
      | (go_at_call 31; refine (hput _ (by first | exact hboxD | exact hboxN)).mono ?_; rintro e w2 ⟨rfl, hc2, hcg2⟩; have hne : w.heap.size ≠ p := (by omega); have hne1 : w.heap.size + 1 ≠ p := (by omega); have j0 := (hcg2.cell (a := ⟨w.heap.size + 1, 5, none⟩) (show w.heap.size + 1 < V.heap.size by omega) hne1).trans c5N; have j1 := (hcg2.cell (a := ⟨w.heap.size + 1, 6, none⟩) (show w.heap.size + 1 < V.heap.size by omega) hne1).trans c6N; have j2 := (hcg2.cell (a := ⟨w.heap.size, 0, none⟩) (show w.heap.size < V.heap.size by omega) hne).trans s0N))
  all_goals
    have hend := (hbN.drew.trans hcg2 (fun k _ h => h))
    clear hcg2 hboxN hboxD c5N c6N s0N hput
    go_wp2_with fail
    go_ret
    exact ⟨rfl, hc2, hend⟩

end Go.Proofs.Ytnjaofkieajnlab

/- The program's inbox: the first sheet. -/
namespace Go.Proofs.Ytnjaofkieajnlab
open Go.RowKit

theorem zero_inb (w : World) : (zeroValue 72).run Try.prog w = .ok (.agg (inbL 0 0 0 0 0 0 0 (fun _ => kn0)).toArray) w := by kernel_rfl

theorem Try.sizeInb : (Try.prog.info? 72).map (·.size) = some 1666 := by kernel_rfl

noncomputable def builtInb (parts : Array (Nat × Value)) : Sem Value := Instr.build 72 parts

theorem build_maskInb (parts : Array (Nat × Value)) : Instr.build 72 parts = builtInb parts := rfl

theorem inb_build (c K M O S z : Nat) (w : World) : (builtInb #[(0, .int .i64 (c : Int)), (1, specV K M O S), (2, .int .i64 (z : Int))]).run Try.prog w = .ok (.agg (inbL c K M O S z 0 (fun _ => kn0)).toArray) w :=
  run_build (P := Try.prog) w 72 #[(0, .int .i64 (c : Int)), (1, specV K M O S), (2, .int .i64 (z : Int))] _ (built_inb c K M O S z)

attribute [local go_sem ↓] build_maskInb

theorem there_new (w : World) (cs : List Value) (t : TypeId) (n : Nat) (hn : cs.length = n) : (w.alloc (.cells cs.toArray t)).there w.heap.size 0 n := by
  have h := there_of_row (heap_alloc_new w (.cells cs.toArray t))
  rwa [show cs.toArray.size = n from by simp [hn]] at h

set_option maxRecDepth 100000 in
set_option maxHeartbeats 8000000 in
theorem lfirst_any (p : Nat) (tt : TypeId) (a c K M O S z i : Nat) (q : ByteArray) (w : World) (hK : 1 ≤ K ∧ K ≤ 20) (hM : 1 ≤ M ∧ M ≤ 20) (hO : 1 ≤ O ∧ O ≤ M) (hS : S ≤ 65535) (hz : 1 ≤ z ∧ z ≤ 16) (ha : a < c) (hc20 : c ≤ 20) (hi : i < K + M) (hq : q.size = z) (hin : InbAt w p tt 0 0 0 0 0 0 0 (fun _ => kn0)) :
    Calls Try.prog 59 #[.pointer (some ⟨p, 0, none⟩), .agg (shC a c K M O S z i q)] w fun e w' => e = .returned (.int .i64 (putE (left kn0 (ofs K M O S i) q) z)) ∧ (putE (left kn0 (ofs K M O S i) q) z = 0 → InbAt w' p tt c K M O S z c (fun j => if j = a then putK kn0 (ofs K M O S i) q else kn0)) ∧ (putE (left kn0 (ofs K M O S i) q) z ≠ 0 → Below w.heap.size w w') ∧ Chg (fun k => k = p) w w' := by
  have hnext : ∀ W r, InbAt W r 72 c K M O S z c (fun _ => kn0) → Calls Try.prog 60 #[.pointer (some ⟨r, 0, none⟩), .agg (shC a c K M O S z i q)] W fun e w' => e = .returned (.int .i64 (putE (left kn0 (ofs K M O S i) q) z)) ∧ InbAt w' r 72 c K M O S z c (fun j => if j = a then putK kn0 (ofs K M O S i) q else kn0) ∧ Chg (fun k => k = r) W w' := fun W r hW => lnext_put r 72 c K M O S z c (fun _ => kn0) a i q W ha (by omega) hK.2 hM.2 (kn0_ok K z) hz.2 hi hq hW
  have hnew := fun W => bnew_ok K M O S z W hK hM hO hS hz
  have hpl := hin.lt
  have hzb : ∀ w, (zeroValue 63).run Try.prog w = .ok (.agg zeroL.toArray) w := zero_box
  have hzi := zero_inb
  have hzl : zeroL.length = 83 := newL_length 0 0 0 (fun _ => 0)
  have hcl := newL_length K (K + M) z (ofs K M O S)
  have hone := newL_one K (K + M) z (ofs K M O S)
  have hnb := fun (W : World) (zs : List Value) (h : zs.length = 83) => newBox_off W zs h K (K + M) z (ofs K M O S)
  have hbu := inb_build c K M O S z
  have hil := inbL_length c K M O S z 0 (fun _ => kn0)
  have hio := inbL_one c K M O S z 0 (fun _ => kn0)
  have hi0 := fun W => inb_stored (inb_new W 72 0 0 0 0 0 0 0 (fun _ => kn0)) c K M O S z 0 (fun _ => kn0)
  have hzil := inbL_length 0 0 0 0 0 0 0 (fun _ => kn0)
  unfold newV at hnew
  generalize newL K (K + M) z (ofs K M O S) = cs at *
  generalize zeroL = zs at *
  generalize inbL c K M O S z 0 (fun _ => kn0) = il at *
  generalize inbL 0 0 0 0 0 0 0 (fun _ => kn0) = iz at *
  obtain ⟨ee, he⟩ : ∃ ee, ee = putE (left kn0 (ofs K M O S i) q) z := ⟨_, rfl⟩
  have hee : ee = 0 ∨ ee = 4 := by rw [he]; unfold putE; split <;> simp
  obtain ⟨k2, hk2⟩ : ∃ k2 : Nat → Kn, k2 = fun j => if j = a then putK kn0 (ofs K M O S i) q else kn0 := ⟨_, rfl⟩
  rw [← he, ← hk2] at hnext
  rw [← he, ← hk2]
  clear he hk2
  have hbA : Below w.heap.size w (w.alloc (shB a c K M O S z i q)) := (Below.refl w.heap.size w).alloc (Nat.le_refl _) _
  have hsA : (w.alloc (shB a c K M O S z i q)).heap[w.heap.size]? = some (shB a c K M O S z i q) := heap_alloc_new w _
  go_enter Try.func59, Try.ntmps59
  go_upto_region 1 with fail
  generalize w.alloc (shB a c K M O S z i q) = V at *
  obtain ⟨c0, c1, c2, c3, c4, c5, c6, c7, c8⟩ := sh_cells hsA
  go_wp2_with fail
  refine (hnew _).mono ?_
  rintro e w1 ⟨rfl, hb1⟩
  have hbw1 : Below w.heap.size w w1 := hbA.trans (hb1.mono hbA.size)
  have hs1 : w1.heap[w.heap.size]? = some (shB a c K M O S z i q) := block_on hsA hb1
  have hsw1 : w.heap.size < w1.heap.size := (Array.getElem?_eq_some_iff.1 hs1).1
  have hst := storeCells_run w1.heap.size cs (w1.alloc (.cells zs.toArray 63)) (by rw [hcl]; exact there_new w1 zs 63 83 hzl) hone
  have hbx := hnb w1 zs hzl
  have hbW : Below w.heap.size w ((w1.alloc (.cells zs.toArray 63)).setCells w1.heap.size 0 cs) := below_setCells (hbw1.alloc hbw1.size _) hbw1.size _ _
  have hsW : ((w1.alloc (.cells zs.toArray 63)).setCells w1.heap.size 0 cs).heap[w.heap.size]? = some (shB a c K M O S z i q) := by
    rw [heap_setCells_far _ _ _ _ _ (by omega), heap_alloc_old _ _ hsw1]; exact hs1
  clear c0 c1 c2 c3 c4 c5 c6 c7 c8 hsA hbA hb1
  go_upto_region 2 with fail
  generalize (w1.alloc (.cells zs.toArray 63)).setCells w1.heap.size 0 cs = W at *
  have hbl := hbx.lt
  clear hnew hone hs1 hnb hzl hbw1 hst hzb hcl
  obtain ⟨c0, c1, c2, c3, c4, c5, c6, c7, c8⟩ := sh_cells hsW
  have hst := storeCells_run W.heap.size il (W.alloc (.cells iz.toArray 72)) (by rw [hil]; exact there_new W iz 72 1666 hzil) hio
  have hin0 := hi0 W
  have hbU : Below w.heap.size w ((W.alloc (.cells iz.toArray 72)).setCells W.heap.size 0 il) := below_setCells (hbW.alloc hbW.size _) hbW.size _ _
  have hsU : ((W.alloc (.cells iz.toArray 72)).setCells W.heap.size 0 il).heap[w.heap.size]? = some (shB a c K M O S z i q) := by
    rw [heap_setCells_far _ _ _ _ _ (by omega), heap_alloc_old _ _ (by omega)]; exact hsW
  have hbxU : BoxOff ((W.alloc (.cells iz.toArray 72)).setCells W.heap.size 0 il) w1.heap.size 0 83 63 (fun _ => undef) K (K + M) z (ofs K M O S) kn0 := hbx.block (by rw [heap_setCells_far _ _ _ _ _ (by omega), heap_alloc_old _ _ (by omega)])
  have hWs := hbW.size
  go_upto_region 5 with fail
  generalize (W.alloc (.cells iz.toArray 72)).setCells W.heap.size 0 il = U at *
  clear c0 c1 c2 c3 c4 c5 c6 c7 c8 hst hsW hbx hbu hil hio hi0 hzil hzi hbW
  have hbbl := boxL_length K (K + M) z (ofs K M O S) kn0
  have hbrg := fun (W' : World) (h : BoxOff W' w1.heap.size 0 83 63 (fun _ => undef) K (K + M) z (ofs K M O S) kn0) => boxL_range h
  have hgrow := fun (W' : World) (m : Nat) (h : InbAt W' W.heap.size 72 c K M O S z m (fun _ => kn0)) => h.grow rfl
  have hbon : ∀ v ∈ boxL K (K + M) z (ofs K M O S) kn0, v.oneCell' = true := fun v hv => by
    obtain ⟨j, _, rfl⟩ := List.mem_map.1 hv
    exact boxCell_one _ _ _ _ _ _
  generalize boxL K (K + M) z (ofs K M O S) kn0 = bb at *
  have hii : (Try.prog.info? 63).map (·.size) = some bb.length := by rw [hbbl]; exact Try.sizeBox
  go_wp2_with fail
  go_loopw [8] (fun mv wr => ∃ m : Nat, m ≤ c ∧ mv = .int .i64 (m : Int) ∧ InbAt wr W.heap.size 72 c K M O S z m (fun _ => kn0) ∧ wr.heap[w.heap.size]? = some (shB a c K M O S z i q) ∧ BoxOff wr w1.heap.size 0 83 63 (fun _ => undef) K (K + M) z (ofs K M O S) kn0 ∧ Below w.heap.size w wr) (fun mv _ => c - (intOf mv).toNat)
  case atStart => exact ⟨0, Nat.zero_le _, rfl, hin0, hsU, hbxU, hbU⟩
  case round =>
    clear hin0 hsU hbxU hbU
    obtain ⟨m, hm, rfl, hinr, hsr, hbxr, hbr⟩ := hrel
    obtain ⟨d0, _⟩ := hinr.head
    by_cases hlt : m < c
    · have i1 : (m : Int) < (c : Int) := by omega
      have i2 : (0 : Int) ≤ (m : Int) := by omega
      have i3 : (m : Int) < 20 := by omega
      have hrg := hbrg wr hbxr
      have hst := storeCells_at W.heap.size (6 + m * 83) bb wr (by rw [hbbl]; exact hinr.there _ _ (by omega)) hbon
      have hin2 := hgrow wr m hinr
      have hs2 : (wr.setCells W.heap.size (6 + m * 83) bb).heap[w.heap.size]? = some (shB a c K M O S z i q) := by rw [heap_setCells_far _ _ _ _ _ (by omega)]; exact hsr
      have hbx2 : BoxOff (wr.setCells W.heap.size (6 + m * 83) bb) w1.heap.size 0 83 63 (fun _ => undef) K (K + M) z (ofs K M O S) kn0 := hbxr.block (by rw [heap_setCells_far _ _ _ _ _ (by omega)])
      have hb2 : Below w.heap.size w (wr.setCells W.heap.size (6 + m * 83) bb) := below_setCells hbr hWs _ _
      clear hinr hsr hbxr hbr hbrg hgrow
      go_wp2_with (refine wpList_load_mid rfl 63 (.tmp 5) rfl w1.heap.size 0 rfl bb _ hrg Try.underlying63 rfl hii ?_)
      go_roundw
      case rel => exact ⟨m + 1, by omega, by go_num, hin2, hs2, hbx2, hb2⟩
      case measure => simp [intOf]; omega
    · have hmc : m = c := by omega
      have i1 : ¬ (m : Int) < (c : Int) := by omega
      rw [hmc] at hinr
      obtain ⟨c0, c1, c2, c3, c4, c5, c6, c7, c8⟩ := sh_cells hsr
      clear hmc hlt hbrg hgrow hbxr
      go_wp2_with fail
      refine (hnext _ W.heap.size hinr).mono ?_
      rintro e w2 ⟨rfl, hin2, hcg2⟩
      have hb2 : Below w.heap.size w w2 := below_chg hbr hcg2 (fun k hk => by omega)
      have hp2 := hin.on (Nat.le_refl _) hb2
      clear c0 c1 c2 c3 c4 c5 c6 c7 c8 hnext hinr hsr hbr hcg2 d0
      rcases hee with rfl | rfl
      · have hrg := inbL_range hin2
        have hst := storeCells_at p 0 (inbL c K M O S z c k2) w2 (by rw [inbL_length]; exact hp2.there 0 1666 (by omega)) (inbL_one _ _ _ _ _ _ _ _)
        have hfin := inb_stored hp2 c K M O S z c k2
        have hcf := chg_setCells (Chg.of_below hb2 (fun k => k = p)) (b := p) rfl 0 (inbL c K M O S z c k2)
        have hbl := inbL_length c K M O S z c k2
        generalize inbL c K M O S z c k2 = ff at *
        have hi2 : (Try.prog.info? 72).map (·.size) = some ff.length := by rw [hbl]; exact Try.sizeInb
        have HF := hide (And.intro hfin hcf)
        clear hfin hcf hin2 hp2 hb2 hin
        go_wp2_with (refine wpList_load_mid rfl 72 (.tmp 7) rfl W.heap.size 0 rfl ff _ hrg Try.underlying72 rfl hi2 ?_)
        go_ret
        first | exact ⟨rfl, fun _ => HF.out.1, fun h => absurd rfl h, HF.out.2⟩ | exact ⟨rfl, HF.out.1, HF.out.2⟩
      · have hcf := Chg.of_below hb2 (fun k => k = p)
        go_wp2_with fail
        go_ret
        first | exact ⟨rfl, fun h => absurd h (by decide), fun _ => hb2, hcf⟩ | exact ⟨rfl, hb2, hcf⟩

end Go.Proofs.Ytnjaofkieajnlab

/- The document's own Send, where it refuses. -/
namespace Go.Proofs.Ytnjaofkieajnlab
open Go.RowKit

end Go.Proofs.Ytnjaofkieajnlab

/- The document's own Mail: Parts, part, mixed. -/
namespace Go.Proofs.Ytnjaofkieajnlab
open Go.RowKit

theorem empty_bytes {t : ByteArray} (h : t.size = 0) : t = ⟨#[]⟩ := bytes_ext (by rw [h]; rfl) (fun i hi => by omega)

theorem run_make_ints (n : Nat) (hn : n ≤ 1000000) (w : World) : (Instr.makeSlice 22 (.int .i64 (n : Int)) (.int .i64 (n : Int))).run Try.prog w = .ok (.slice (some ⟨w.heap.size, 0, none⟩) n n) (w.alloc (.cells (madeCells #[.int .i64 0] n) 3)) := by
  obtain ⟨i, hi, hzz⟩ := Option.map_eq_some_iff.1 Try.infoInt
  simp only [Prod.mk.injEq] at hzz
  obtain ⟨hz, hs, hb⟩ := hzz
  have h := run_make (P := Try.prog) w 22 3 i (.int .i64 0) Try.underlying22 hi hz .i64 .i64 (n : Int) (n : Int) (by omega) (by omega) (by rw [hb]; omega) (by omega)
  simp only [Int.toNat_natCast, hs, Nat.mul_one] at h
  exact h

theorem swapL_getD (l : List Nat) (i j k : Nat) (hi : i < l.length) (hj : j < l.length) : (swapL l 0 i j).getD k 0 = if k = j then l.getD i 0 else if k = i then l.getD j 0 else l.getD k 0 := by
  unfold swapL
  simp only [List.getD_eq_getElem?_getD]
  by_cases e : k = j
  · subst e
    rw [if_pos rfl, List.getElem?_set_self (by simpa using hj)]; rfl
  · rw [if_neg e, List.getElem?_set_ne (fun h => e h.symm)]
    by_cases e2 : k = i
    · subst e2
      rw [if_pos rfl, List.getElem?_set_self hi]; rfl
    · rw [if_neg e2, List.getElem?_set_ne (fun h => e2 h.symm)]

theorem nxt_le (x : Nat) : nxt x ≤ 65536 := by unfold nxt; omega

/-- Numbers in a row of the call's own. -/
def NumsIn (w : World) (g : Nat) (A : List Nat) : Prop := w.rowIs g 3 A.length (fun i => .int .i64 ((A.getD i 0 : Nat) : Int))

theorem NumsIn.swap {w : World} {g : Nat} {A : List Nat} (h : NumsIn w g A) {i j : Nat} (hi : i < A.length) (hj : j < A.length) : NumsIn ((w.setCell ⟨g, i, none⟩ (.int .i64 ((A.getD j 0 : Nat) : Int))).setCell ⟨g, j, none⟩ (.int .i64 ((A.getD i 0 : Nat) : Int))) g (swapL A 0 i j) := by
  unfold NumsIn at h ⊢
  rw [swapL_length]
  refine ((World.rowIs.set h i _).set j _).congr (fun k _ => ?_)
  rw [swapL_getD A i j k hi hj]
  by_cases e : k = j
  · rw [if_pos e, if_pos e]
  · rw [if_neg e, if_neg e]
    by_cases e2 : k = i
    · rw [if_pos e2, if_pos e2]
    · rw [if_neg e2, if_neg e2]

end Go.Proofs.Ytnjaofkieajnlab

/- The document's own Mail. -/
namespace Go.Proofs.Ytnjaofkieajnlab
open Go.RowKit

theorem chg_under {S : Nat → Prop} {w wr w2 : World} (h : Below w.heap.size w wr) (hc : Chg S wr w2) (hs : ∀ k, S k → w.heap.size ≤ k) : Below w.heap.size w w2 :=
  ⟨hc.os.trans h.os, hc.tape.trans h.tape, hc.output.trans h.output, Nat.le_trans h.size hc.size, fun k hk => (hc.block k (Nat.lt_of_lt_of_le hk h.size) (fun s => by have := hs k s; omega)).trans (h.block k hk)⟩

/-- The large object of a specification may be. -/
structure MailOk (K M O S z : Nat) (t : ByteArray) (x : Nat) : Prop where
  spec : SpecOk K M O S z
  three : 3 ≤ K * z
  parts : partsN t (K * z - 2) ≤ 20
  order : x ≤ 65535

/-- The sheets, in the order that is drawn. -/
def mailL (K M O S z : Nat) (t : ByteArray) (x : Nat) : List ByteArray :=
  mixFrom ByteArray.empty x (sheetsTo K M O S z (partsN t (K * z - 2)) t (partsN t (K * z - 2))) ((sheetsTo K M O S z (partsN t (K * z - 2)) t (partsN t (K * z - 2))).length - 1)

end Go.Proofs.Ytnjaofkieajnlab

/- Steps of a script, as values and as they are read; the statement's own pick. -/
namespace Go.Proofs.Ytnjaofkieajnlab
open Go.RowKit

/-- A step as a value, and as a block. -/
abbrev opC (k a b c K M O S : Int) (s : ByteArray) (lv : Value) : Array Value := #[.int .i64 k, .int .i64 a, .int .i64 b, .int .i64 c, .int .i64 K, .int .i64 M, .int .i64 O, .int .i64 S, .string s, lv]

theorem op_cells {w : World} {q : Nat} {k a b c K M O S : Int} {s : ByteArray} {lv : Value} {t : TypeId} (h : w.heap[q]? = some (.cells (opC k a b c K M O S s lv) t (0, 0))) :
    w.cell? ⟨q, 0, none⟩ = some (.int .i64 k) ∧ w.cell? ⟨q, 1, none⟩ = some (.int .i64 a) ∧ w.cell? ⟨q, 2, none⟩ = some (.int .i64 b) ∧ w.cell? ⟨q, 4, none⟩ = some (.int .i64 K) ∧ w.cell? ⟨q, 5, none⟩ = some (.int .i64 M) ∧ w.cell? ⟨q, 6, none⟩ = some (.int .i64 O) ∧ w.cell? ⟨q, 7, none⟩ = some (.int .i64 S) ∧ w.cell? ⟨q, 8, none⟩ = some (.string s) := by
  refine ⟨?_, ?_, ?_, ?_, ?_, ?_, ?_, ?_⟩ <;> rw [cell_of_row _ _ _ _ _ _ h] <;> rfl

theorem pick_place' (c : Int) (n : Nat) (hn : 0 < n) : rawOf c % (n : Int) = (placeOf n c : Int) := by
  unfold placeOf rawOf
  have h1 := Int.emod_nonneg (if c < 0 then -(c + 1) else c) (show (n : Int) ≠ 0 by omega)
  omega

/-- A step of a script. -/
structure OpR where
  k : Int
  a : Int
  b : Int
  c : Int
  K : Int
  M : Int
  O : Int
  S : Int
  s : ByteArray
  lv : Value

def OpR.none : OpR := ⟨0, 0, 0, 0, 0, 0, 0, 0, ByteArray.empty, .slice .none 0 0⟩

def OpR.cells (r : OpR) : List Value := [.int .i64 r.k, .int .i64 r.a, .int .i64 r.b, .int .i64 r.c, .int .i64 r.K, .int .i64 r.M, .int .i64 r.O, .int .i64 r.S, .string r.s, r.lv]

/-- A script that came in, as it is read. -/
def OpsAt (w : World) (v : Value) (l : List OpR) : Prop :=
  ∃ ao cap, v = .slice ao l.length cap ∧ l.length ≤ cap ∧ ∀ i, i < l.length → ∃ q o, ao = some ⟨q, o, none⟩ ∧ q < w.heap.size ∧ w.rangeAt q (o + i * 10) (l.getD i OpR.none).cells ∧ -9223372036854775808 ≤ (l.getD i OpR.none).a ∧ (l.getD i OpR.none).a ≤ 9223372036854775807

theorem range_below {w w' : World} {n q o : Nat} {cs : List Value} (h : w.rangeAt q o cs) (hb : Below n w w') (hq : q < n) : w'.rangeAt q o cs := fun j v hv => by
  rw [hb.cell (p := ⟨q, o + j, none⟩) hq]; exact h j v hv

end Go.Proofs.Ytnjaofkieajnlab
