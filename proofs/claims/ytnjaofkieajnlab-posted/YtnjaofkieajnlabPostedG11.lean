/- Texts of the proof, part 12. -/
import Derived.BigQuiet
import Derived.BigRegion
import Derived.Deep.MidRow
import Derived.Laws.ResultCell
import Derived.Test.YtnjaofkieajnlabPostedG1
import Derived.Test.YtnjaofkieajnlabPostedG10
import Derived.Test.YtnjaofkieajnlabPostedG2
import Derived.Test.YtnjaofkieajnlabPostedG5
import Derived.Test.YtnjaofkieajnlabPostedG6
import Derived.Test.YtnjaofkieajnlabPostedG7
import Derived.Test.YtnjaofkieajnlabPostedG9

/- The program's read of a packet. -/
namespace Go.Proofs.Ytnjaofkieajnlab
open Go.RowKit

theorem mayb_below (K M O S : Int) (w : World) :
    Calls Try.prog 46 #[specV K M O S] w fun e w' => e = .returned (.bool (mayB K M O S)) ∧ Below w.heap.size w w' :=
  (maybe_any K M O S w).mono fun _ _ ⟨he, hw⟩ => ⟨he, by rw [hw]; exact (Below.refl _ _).alloc (Nat.le_refl _) _⟩

theorem Try.sizePk : (Try.prog.info? 84).map (·.size) = some 7 := by kernel_rfl

theorem pk_one (K M O S z i : Int) (p : ByteArray) : (pkC K M O S z i p).all (fun x => x.oneCell') = true := by
  simp [Value.oneCell']

theorem results_pread (tmps : Array Value) (w : World) (g : Nat) (K M O S z i : Int) (q : ByteArray) (fr : Nat × Nat) (hp : tmps.getD 2 undef = .pointer (some ⟨g, 0, none⟩)) (hg : w.heap[g]? = some (.cells (pkC K M O S z i q) 84 fr)) :
    (results Try.f50 tmps).run Try.prog w = .ok (.tuple #[.agg (pkC K M O S z i q), tmps.getD 3 undef]) w := by
  have hl := run_loadVar_row (P := Try.prog) w g 84 84 _ fr _ hg Try.underlying84 rfl Try.sizePk
  have hp' : tmps[2]?.getD undef = .pointer (some ⟨g, 0, none⟩) := by simpa using hp
  simp [results, Try.results50, hp', asAddr, hl]

/-- The packet that is none. -/
abbrev pk0 : Array Value := pkC 0 0 0 0 0 0 ⟨#[]⟩

set_option maxRecDepth 100000 in
set_option maxHeartbeats 8000000 in
theorem pread_short (p : ByteArray) (w : World) (hp : (p.size : Int) < 8 ∨ (8 ≤ p.size ∧ byteAt p 0 ≠ 82)) :
    Calls Try.prog 50 #[.string p] w fun e w' => e = .returned (.tuple #[.agg pk0, .bool false]) ∧ Below w.heap.size w w' := by
  have hbA : Below w.heap.size w (w.alloc (.cells pk0 84)) := (Below.refl _ _).alloc (Nat.le_refl _) _
  have hres : (w.alloc (.cells pk0 84)).heap[w.heap.size]? = some (.cells pk0 84 (0, 0)) := heap_alloc_new w _
  have hone := pk_one 0 0 0 0 0 0 ⟨#[]⟩
  have hf1 := setRow_heap _ _ _ pk0 _ _ hres
  have hf2 : Below w.heap.size w ((w.alloc (.cells pk0 84)).setRow w.heap.size pk0) := ((Chg.of_below hbA (fun _ => False)).setRow (Or.inl (Nat.le_refl _)) _).below (fun _ _ f => f)
  have Hf1 := hide hf1
  have Hf2 := hide hf2
  have Hres := hide hres
  clear hf1 hf2 hbA hres
  rcases hp with hp | ⟨hp, h0⟩
  · go_enter Try.func50, Try.ntmps50
    go_wp2_with (first | (refine wpList_store_row rfl 84 (.tmp 2) (.tmp 15) rfl w.heap.size pk0 rfl rfl 84 pk0 Hres.out Try.sizePk rfl hone ?_))
    exact bodyPost_ret (results_pread _ _ w.heap.size 0 0 0 0 0 0 _ _ rfl Hf1.out) rfl ⟨rfl, Hf2.out⟩
  · have hl1 : ¬ (p.size : Int) < 8 := by omega
    have g0 := byteAt_get p 0 (by omega)
    have i0 : (0 : Int) < (p.size : Int) := by omega
    have b0 := (byteAt p 0).toNat_lt
    have h0b : (((byteAt p 0).toNat : Int) != 82) = true := by
      simp only [bne_iff_ne, ne_eq]
      intro e
      exact h0 (UInt8.toNat_inj.1 (by show (byteAt p 0).toNat = 82; omega))
    clear h0
    go_enter Try.func50, Try.ntmps50
    go_wp2_with (first | (refine wpList_store_row rfl 84 (.tmp 2) (.tmp 15) rfl w.heap.size pk0 rfl rfl 84 pk0 Hres.out Try.sizePk rfl hone ?_))
    exact bodyPost_ret (results_pread _ _ w.heap.size 0 0 0 0 0 0 _ _ rfl Hf1.out) rfl ⟨rfl, Hf2.out⟩

abbrev pkL (K M O S z i : Int) (p : ByteArray) : List Value := [.int .i64 K, .int .i64 M, .int .i64 O, .int .i64 S, .int .i64 z, .int .i64 i, .string p]

/-- 'build' at a packet, kept whole. -/
noncomputable def builtPk (parts : Array (Nat × Value)) : Sem Value := Instr.build 84 parts

theorem build_maskPk (parts : Array (Nat × Value)) : Instr.build 84 parts = builtPk parts := rfl

theorem built_pk (K M O S z i : Int) (p : ByteArray) : Try.prog.built 84 [(0, specV K M O S), (1, .int .i64 z), (2, .int .i64 i), (3, .string p)] = some (pkL K M O S z i p).toArray := by kernel_rfl

theorem pk_build (K M O S z i : Int) (p : ByteArray) (w : World) : (builtPk #[(0, specV K M O S), (1, .int .i64 z), (2, .int .i64 i), (3, .string p)]).run Try.prog w = .ok (.agg (pkL K M O S z i p).toArray) w :=
  run_build (P := Try.prog) w 84 #[(0, specV K M O S), (1, .int .i64 z), (2, .int .i64 i), (3, .string p)] _ (built_pk K M O S z i p)

theorem pk_there {w : World} {b : Nat} {K M O S z i : Int} {p : ByteArray} {t : TypeId} (h : w.heap[b]? = some (.cells (pkC K M O S z i p) t (0, 0))) : w.there b 0 7 := fun j hj => by
  rw [Nat.zero_add, cell_of_row _ _ _ _ _ _ h, Array.getElem?_eq_getElem (show j < (pkC K M O S z i p).size from hj)]
  exact ⟨rfl, by simp [World.frozen?, h]⟩

theorem pk_store (b : Nat) (K M O S z i : Int) (p : ByteArray) (w : World) (ht : w.there b 0 7) : (storeCells ⟨b, 0, none⟩ (pkL K M O S z i p)).run Try.prog w = .ok () (w.setCells b 0 (pkL K M O S z i p)) :=
  run_storeCells_cells (P := Try.prog) b 0 (pkL K M O S z i p) 0 w (fun j hj => by simpa using (ht j hj).1) (fun j hj => by simpa using (ht j hj).2) (by intro v hv; simp at hv; rcases hv with rfl | rfl | rfl | rfl | rfl | rfl | rfl <;> rfl)

theorem pk_below {n : Nat} {w w' : World} (h : Below n w w') {b : Nat} (hb : n ≤ b) : ∀ (o : Nat) (vs : List Value), Below n w (w'.setCells b o vs) := fun o vs => by
  induction vs generalizing o w' with
  | nil => exact h
  | cons v vs ih => exact ih (h.setCell hb v) (o + 1)

theorem pk_build0 (w : World) : (builtPk #[]).run Try.prog w = .ok (.agg pk0) w :=
  run_build (P := Try.prog) w 84 #[] pk0 (by kernel_rfl)

attribute [local go_sem ↓] build_maskPk

set_option maxRecDepth 100000 in
set_option maxHeartbeats 8000000 in
theorem pread_walk (p : ByteArray) (K M O S z i : Nat) (w : World) (hp : 8 ≤ p.size) (h0 : byteAt p 0 = 82) (e1 : (byteAt p 1).toNat = K) (e2 : (byteAt p 2).toNat = M) (e3 : (byteAt p 3).toNat = O) (e4 : (byteAt p 4).toNat + 256 * (byteAt p 5).toNat = S) (e6 : (byteAt p 6).toNat = z) (e7 : (byteAt p 7).toNat = i) :
    Calls Try.prog 50 #[.string p] w fun e w' => (((mayB K M O S = true ∧ 1 ≤ z ∧ z ≤ 16 ∧ i < K + M ∧ p.size = z + 9 ∧ addTo p p.size = 0) → e = .returned (.tuple #[.agg (pkC K M O S z i (p.extract 8 (8 + z))), .bool true])) ∧ (¬ (mayB K M O S = true ∧ 1 ≤ z ∧ z ≤ 16 ∧ i < K + M ∧ p.size = z + 9 ∧ addTo p p.size = 0) → e = .returned (.tuple #[.agg pk0, .bool false]))) ∧ Below w.heap.size w w' := by
  have g0 := byteAt_get p 0 (by omega)
  have g1 := byteAt_get p 1 (by omega)
  have g2 := byteAt_get p 2 (by omega)
  have g3 := byteAt_get p 3 (by omega)
  have g4 := byteAt_get p 4 (by omega)
  have g5 := byteAt_get p 5 (by omega)
  have g6 := byteAt_get p 6 (by omega)
  have g7 := byteAt_get p 7 (by omega)
  have b1 := (byteAt p 1).toNat_lt
  have b2 := (byteAt p 2).toNat_lt
  have b3 := (byteAt p 3).toNat_lt
  have b4 := (byteAt p 4).toNat_lt
  have b5 := (byteAt p 5).toNat_lt
  have b6 := (byteAt p 6).toNat_lt
  have b7 := (byteAt p 7).toNat_lt
  have i0 : (0 : Int) < (p.size : Int) := by omega
  have i1 : (1 : Int) < (p.size : Int) := by omega
  have i2 : (2 : Int) < (p.size : Int) := by omega
  have i3 : (3 : Int) < (p.size : Int) := by omega
  have i4 : (4 : Int) < (p.size : Int) := by omega
  have i5 : (5 : Int) < (p.size : Int) := by omega
  have i6 : (6 : Int) < (p.size : Int) := by omega
  have i7 : (7 : Int) < (p.size : Int) := by omega
  have hl1 : ¬ (p.size : Int) < 8 := by omega
  have h0b : (((byteAt p 0).toNat : Int) != 82) = false := by rw [h0]; rfl
  have HE := hide (And.intro e1 (And.intro e2 (And.intro e3 (And.intro e4 (And.intro e6 e7)))))
  clear e1 e2 e3 e4 e6 e7 h0
  go_enter Try.func50, Try.ntmps50
  go_upto_region 3 with fail
  have hbA : Below w.heap.size w (w.alloc (.cells pk0 84)) := (Below.refl _ _).alloc (Nat.le_refl _) _
  have hres : (w.alloc (.cells pk0 84)).heap[w.heap.size]? = some (.cells pk0 84 (0, 0)) := heap_alloc_new w _
  generalize w.alloc (.cells pk0 84) = W at *
  go_cut [4] (fun s4 wc => s4 = .pointer (some ⟨W.heap.size, 0, none⟩) ∧ wc = (W.alloc (specB K M O S)).drew)
  case first =>
    go_region
    obtain ⟨e1, e2, e3, e4, e6, e7⟩ := HE.out
    have e4' : (((byteAt p 4).toNat : Int) + 256 * ((byteAt p 5).toNat : Int)) = (S : Int) := by omega
    rw [e4', e1, e2, e3]
    go_wp2_with fail
    go_meet
    case rel => exact ⟨rfl, rfl⟩
  case rest =>
  obtain ⟨rfl, rfl⟩ := hcut
  obtain ⟨e1, e2, e3, e4, e6, e7⟩ := HE.out
  rw [e1] at b1
  rw [e2] at b2
  rw [e3] at b3
  have hS : S ≤ 65535 := by omega
  clear HE e1 e2 e3 e4 b4 b5
  have hspW : (W.alloc (specB K M O S)).drew.heap[W.heap.size]? = some (specB K M O S) := heap_alloc_new W _
  have hbW : Below w.heap.size w (W.alloc (specB K M O S)).drew := (hbA.alloc hbA.size _).drew
  have hresW : (W.alloc (specB K M O S)).drew.heap[w.heap.size]? = some (.cells pk0 84 (0, 0)) := block_on hres ((Below.refl _ _).alloc (Nat.le_refl _) _).drew
  have hWn : w.heap.size ≠ W.heap.size := by have := (Array.getElem?_eq_some_iff.1 hres).1; omega
  generalize hWh : W.heap.size = h at *
  generalize hW1 : (W.alloc (specB K M O S)).drew = W1 at *
  clear hbA hres hW1 hWh
  go_wp2_with fail
  go_cut [5, 6] (fun s5 s6 wc => s5 = .int .i64 (z : Int) ∧ s6 = .int .i64 (i : Int) ∧ ∃ n, wc = W1.drewN n)
  case first =>
    go_quiet (fail)
    go_wp2_with fail
    go_meet
    case rel => exact ⟨by first | rfl | rw [e6], by first | rfl | rw [e7], _, rfl⟩
  case rest =>
  obtain ⟨rfl, rfl, nq, rfl⟩ := hcut
  rw [e6] at b6
  rw [e7] at b7
  clear e6 e7 g0 g1 g2 g3 g4 g5 g6 g7 h0b
  have hspV : (W1.drewN nq).heap[h]? = some (specB K M O S) := hspW
  have hresV : (W1.drewN nq).heap[w.heap.size]? = some (.cells pk0 84 (0, 0)) := hresW
  have hbV : Below w.heap.size w (W1.drewN nq) := hbW.trans ⟨rfl, rfl, rfl, Nat.le_refl _, fun _ _ => rfl⟩
  generalize W1.drewN nq = V at *
  clear hspW hresW hbW
  obtain ⟨c0, c1, c2, c3⟩ := spec_cells hspV
  go_wp2_with fail
  refine (mayb_below K M O S _).mono ?_
  rintro e W2 ⟨rfl, hb2⟩
  have hsp2 := block_on hspV hb2
  have hres2 := block_on hresV hb2
  have hbw2 := hbV.trans (hb2.mono hbV.size)
  clear c0 c1 c2 c3 hspV hresV hbV hb2
  obtain ⟨c0, c1, c2, c3⟩ := spec_cells hsp2
  have hf1 := setRow_heap _ _ _ pk0 _ _ hres2
  have hf2 : Below w.heap.size w (W2.setRow w.heap.size pk0) := ((Chg.of_below hbw2 (fun _ => False)).setRow (Or.inl (Nat.le_refl _)) _).below (fun _ _ f => f)
  have hone := pk_one 0 0 0 0 0 0 ⟨#[]⟩
  have Hf1 := hide hf1
  have Hf2 := hide hf2
  have Hres := hide hres2
  clear hf1 hf2
  have hbz := pk_build0
  by_cases hok : mayB K M O S = true ∧ 1 ≤ z ∧ z ≤ 16 ∧ i < K + M
  · obtain ⟨hm, hz1, hz2, hi⟩ := hok
    have n1 : ¬ (z : Int) < 1 := by omega
    have n2 : ¬ (16 : Int) < (z : Int) := by omega
    have n3 : ¬ (K : Int) + (M : Int) ≤ (i : Int) := by omega
    have hio : ((mayB K M O S = true ∧ 1 ≤ z ∧ z ≤ 16 ∧ i < K + M ∧ p.size = z + 9 ∧ addTo p p.size = 0) ↔ (p.size = z + 9 ∧ addTo p p.size = 0)) := ⟨fun h => h.2.2.2.2, fun h => ⟨hm, hz1, hz2, hi, h⟩⟩
    have Hio := hide hio
    rw [hm]
    clear hio hm
    by_cases hps : p.size = z + 9
    · have hpb : ((p.size : Int) != 8 + (z : Int) + 1) = false := by simp; omega
      have htot : ∀ W, Calls Try.prog 67 #[.string p] W fun e w' => e = .returned (.int .u8 ((addTo p p.size).toNat : Int)) ∧ w' = W := fun W => ptotal_any p W (by omega)
      obtain ⟨y, hy⟩ : ∃ y, y = addTo p p.size := ⟨_, rfl⟩
      rw [← hy] at htot
      have HY := hide hy
      have Hps := hide hps
      clear hy
      by_cases hy0 : y = 0
      · have hyb : ((y.toNat : Int) != 0) = false := by rw [hy0]; rfl
        have Hy0 := hide hy0
        clear hy0
        go_upto_region 9 with (first | (refine (htot _).mono ?_; rintro e W3 ⟨rfl, rfl⟩))
        have i8 : (8 : Int) + (z : Int) ≤ (p.size : Int) := by omega
        clear hbz
        have ht : W3.drew.there w.heap.size 0 7 := pk_there Hres.out
        have hst := pk_store w.heap.size K M O S z i (p.extract 8 (8 + z)) W3.drew ht
        have hbu := pk_build K M O S z i (p.extract 8 (8 + z)) W3.drew
        have hr := World.rangeAt_setCells_same W3.drew w.heap.size 0 (pkL K M O S z i (p.extract 8 (8 + z))) ht
        have hend : Below w.heap.size w (W3.drew.setCells w.heap.size 0 (pkL K M O S z i (p.extract 8 (8 + z)))) := pk_below hbw2.drew (Nat.le_refl _) _ _
        have hcs : (pkL K M O S z i (p.extract 8 (8 + z))).toArray = pkC K M O S z i (p.extract 8 (8 + z)) := rfl
        have hlen : (pkL K M O S z i (p.extract 8 (8 + z))).length = 7 := rfl
        generalize pkL K M O S z i (p.extract 8 (8 + z)) = cs at *
        have Hcs := hide hcs
        clear hcs ht hbw2 hres2 hsp2
        go_region
        go_wp2_with fail
        refine bodyPost_ret (v := .tuple #[.agg cs.toArray, .bool true]) ?_ rfl ⟨⟨fun _ => by rw [Hcs.out], fun h => absurd (Hio.out.2 ⟨Hps.out, by rw [← HY.out]; exact Hy0.out⟩) h⟩, hend⟩
        rw [results_cell_tmp Try.results50]
        have hl := run_loadVar_mid (P := Try.prog) _ w.heap.size 0 84 cs _ hr Try.underlying84 rfl (by rw [hlen]; exact Try.sizePk)
        simp [asAddr, hl]
      · have hyb : ((y.toNat : Int) != 0) = true := by
          simp only [bne_iff_ne, ne_eq]
          intro e
          exact hy0 (UInt8.toNat_inj.1 (by show y.toNat = 0; omega))
        have hno : ¬ (mayB K M O S = true ∧ 1 ≤ z ∧ z ≤ 16 ∧ i < K + M ∧ p.size = z + 9 ∧ addTo p p.size = 0) := fun h => hy0 (by rw [HY.out]; exact h.2.2.2.2.2)
        have Hno := hide hno
        clear hno hy0
        go_wp2_with fail
        refine (htot _).mono ?_
        rintro e W3 ⟨rfl, rfl⟩
        go_wp2_with (first | (refine wpList_store_row rfl 84 (.tmp 2) (.tmp 72) rfl w.heap.size pk0 rfl rfl 84 pk0 Hres.out Try.sizePk rfl hone ?_))
        exact bodyPost_ret (results_pread _ _ w.heap.size 0 0 0 0 0 0 _ _ rfl Hf1.out) rfl ⟨⟨fun h => absurd h Hno.out, fun _ => rfl⟩, Hf2.out⟩
    · have hpb : ((p.size : Int) != 8 + (z : Int) + 1) = true := by simp; omega
      have hno : ¬ (mayB K M O S = true ∧ 1 ≤ z ∧ z ≤ 16 ∧ i < K + M ∧ p.size = z + 9 ∧ addTo p p.size = 0) := fun h => hps h.2.2.2.2.1
      have Hno := hide hno
      clear hno hps
      go_wp2_with (first | (refine wpList_store_row rfl 84 (.tmp 2) (.tmp 72) rfl w.heap.size pk0 rfl rfl 84 pk0 Hres.out Try.sizePk rfl hone ?_))
      exact bodyPost_ret (results_pread _ _ w.heap.size 0 0 0 0 0 0 _ _ rfl Hf1.out) rfl ⟨⟨fun h => absurd h Hno.out, fun _ => rfl⟩, Hf2.out⟩
  · have hno : ¬ (mayB K M O S = true ∧ 1 ≤ z ∧ z ≤ 16 ∧ i < K + M ∧ p.size = z + 9 ∧ addTo p p.size = 0) := fun h => hok ⟨h.1, h.2.1, h.2.2.1, h.2.2.2.1⟩
    have Hno := hide hno
    have hor : mayB K M O S = false ∨ (mayB K M O S = true ∧ (z : Int) < 1) ∨ (mayB K M O S = true ∧ ¬ (z : Int) < 1 ∧ (16 : Int) < (z : Int)) ∨ (mayB K M O S = true ∧ ¬ (z : Int) < 1 ∧ ¬ (16 : Int) < (z : Int) ∧ (K : Int) + (M : Int) ≤ (i : Int)) := by
      cases hm : mayB K M O S with
      | false => exact Or.inl rfl
      | true =>
        have : ¬ (1 ≤ z ∧ z ≤ 16 ∧ i < K + M) := fun h => hok ⟨hm, h⟩
        refine Or.inr ?_
        simp only [true_and]
        omega
    clear hno hok
    rcases hor with hm | ⟨hm, h1⟩ | ⟨hm, h1, h2⟩ | ⟨hm, h1, h2, h3⟩
    all_goals
      rw [hm]
      go_wp2_with (first | (refine wpList_store_row rfl 84 (.tmp 2) (.tmp 60) rfl w.heap.size pk0 rfl rfl 84 pk0 Hres.out Try.sizePk rfl hone ?_))
      exact bodyPost_ret (results_pread _ _ w.heap.size 0 0 0 0 0 0 _ _ rfl Hf1.out) rfl ⟨⟨fun h => absurd h Hno.out, fun _ => rfl⟩, Hf2.out⟩

end Go.Proofs.Ytnjaofkieajnlab

/- The program's catcher where it lies within a block: its cells; Wants and the box within it. -/
namespace Go.Proofs.Ytnjaofkieajnlab
open Go.RowKit

/-- The cells of the program's catcher. -/
def catCell (tk : Bool) (K M O S z n : Nat) (of : Nat → Nat) (kn : Kn) (i : Nat) : Value :=
  if i = 0 then .bool tk else if i = 1 then .int .i64 (K : Int) else if i = 2 then .int .i64 (M : Int) else if i = 3 then .int .i64 (O : Int) else if i = 4 then .int .i64 (S : Int) else if i = 5 then .int .i64 (z : Int) else boxCell K n z of kn (i - 6)

/-- The cells of a block that has a catcher from place o on. -/
def inCat (o : Nat) (hh : Nat → Value) (tk : Bool) (K M O S z n : Nat) (of : Nat → Nat) (kn : Kn) (i : Nat) : Value := if i < o then hh i else if i < o + 89 then catCell tk K M O S z n of kn (i - o) else hh i

/-- Block p, of Ln cells, has a catcher from place o on; its other cells are hh's. -/
def CatOff (w : World) (p o Ln : Nat) (tt : TypeId) (hh : Nat → Value) (tk : Bool) (K M O S z n : Nat) (of : Nat → Nat) (kn : Kn) : Prop := o + 89 ≤ Ln ∧ w.rowIs p tt Ln (inCat o hh tk K M O S z n of kn)

theorem inCat_in (o : Nat) (hh : Nat → Value) (tk : Bool) (K M O S z n : Nat) (of : Nat → Nat) (kn : Kn) (i : Nat) (hi : i < 89) : inCat o hh tk K M O S z n of kn (o + i) = catCell tk K M O S z n of kn i := by
  unfold inCat
  rw [if_neg (by omega), if_pos (by omega), Nat.add_sub_cancel_left]

theorem inCat_box (o : Nat) (hh : Nat → Value) (tk : Bool) (K M O S z n : Nat) (of : Nat → Nat) (kn : Kn) (i : Nat) : inBox (o + 6) (inCat o hh tk K M O S z n of kn0) K n z of kn i = inCat o hh tk K M O S z n of kn i := by
  unfold inBox
  by_cases h1 : i < o + 6
  · rw [if_pos h1]
    unfold inCat
    by_cases h2 : i < o
    · rw [if_pos h2, if_pos h2]
    · rw [if_neg h2, if_neg h2, if_pos (by omega), if_pos (by omega)]
      unfold catCell
      have : i - o = 0 ∨ i - o = 1 ∨ i - o = 2 ∨ i - o = 3 ∨ i - o = 4 ∨ i - o = 5 := by omega
      rcases this with h | h | h | h | h | h <;> rw [h] <;> rfl
  · rw [if_neg h1]
    by_cases h2 : i < o + 6 + 83
    · rw [if_pos h2]
      unfold inCat catCell
      rw [if_neg (by omega), if_pos (by omega), if_neg (by omega), if_neg (by omega), if_neg (by omega), if_neg (by omega), if_neg (by omega), if_neg (by omega), show i - o - 6 = i - (o + 6) by omega]
    · rw [if_neg h2]
      unfold inCat
      rw [if_neg (by omega), if_neg (by omega), if_neg (by omega), if_neg (by omega)]

namespace CatOff
variable {w w' : World} {p o Ln : Nat} {tt : TypeId} {hh : Nat → Value} {tk : Bool} {K M O S z n : Nat} {of : Nat → Nat} {kn : Kn}

theorem lt (h : CatOff w p o Ln tt hh tk K M O S z n of kn) : p < w.heap.size := World.rowIs.lt h.2

theorem block (h : CatOff w p o Ln tt hh tk K M O S z n of kn) (hb : w'.heap[p]? = w.heap[p]?) : CatOff w' p o Ln tt hh tk K M O S z n of kn := ⟨h.1, World.rowIs.of_block h.2 hb⟩

theorem on (h : CatOff w p o Ln tt hh tk K M O S z n of kn) {m : Nat} (hm : w.heap.size ≤ m) (hb : Below m w w') : CatOff w' p o Ln tt hh tk K M O S z n of kn := h.block (hb.block p (Nat.lt_of_lt_of_le h.lt hm))

theorem box (h : CatOff w p o Ln tt hh tk K M O S z n of kn) : BoxOff w p (o + 6) Ln tt (inCat o hh tk K M O S z n of kn0) K n z of kn :=
  ⟨by have := h.1; omega, World.rowIs.congr h.2 (fun i _ => (inCat_box o hh tk K M O S z n of kn i).symm)⟩

theorem of_box (h : BoxOff w p (o + 6) Ln tt (inCat o hh tk K M O S z n of kn0) K n z of kn) : CatOff w p o Ln tt hh tk K M O S z n of kn :=
  ⟨by have := h.1; omega, World.rowIs.congr h.2 (fun i _ => inCat_box o hh tk K M O S z n of kn i)⟩

theorem cell (h : CatOff w p o Ln tt hh tk K M O S z n of kn) {i : Nat} (hi : i < 89) : w.cell? ⟨p, o + i, none⟩ = some (catCell tk K M O S z n of kn i) := by
  have := World.rowIs.cell h.2 (i := o + i) (by have := h.1; omega)
  rw [inCat_in _ _ _ _ _ _ _ _ _ _ _ _ hi] at this
  exact this

theorem head (h : CatOff w p o Ln tt hh tk K M O S z n of kn) : w.cell? ⟨p, o, none⟩ = some (.bool tk) ∧ w.cell? ⟨p, o + 1, none⟩ = some (.int .i64 (K : Int)) ∧ w.cell? ⟨p, o + 2, none⟩ = some (.int .i64 (M : Int)) ∧ w.cell? ⟨p, o + 3, none⟩ = some (.int .i64 (O : Int)) ∧ w.cell? ⟨p, o + 4, none⟩ = some (.int .i64 (S : Int)) ∧ w.cell? ⟨p, o + 5, none⟩ = some (.int .i64 (z : Int)) :=
  ⟨h.cell (i := 0) (by omega), h.cell (i := 1) (by omega), h.cell (i := 2) (by omega), h.cell (i := 3) (by omega), h.cell (i := 4) (by omega), h.cell (i := 5) (by omega)⟩

theorem frozen (h : CatOff w p o Ln tt hh tk K M O S z n of kn) (i : Nat) : w.frozen? ⟨p, i, none⟩ = false := World.rowIs.frozen h.2 i

theorem there (h : CatOff w p o Ln tt hh tk K M O S z n of kn) : w.there p o 89 := fun j hj => ⟨by rw [h.cell hj]; rfl, h.frozen _⟩

end CatOff

/-- A catcher that has heard nothing. -/
abbrev CatNone (w : World) (p o Ln : Nat) (tt : TypeId) (hh : Nat → Value) : Prop := CatOff w p o Ln tt hh false 0 0 0 0 0 0 (fun _ => 0) kn0

/-- .. and one that has. -/
abbrev CatHas (w : World) (p o Ln : Nat) (tt : TypeId) (hh : Nat → Value) (K M O S z : Nat) (kn : Kn) : Prop := CatOff w p o Ln tt hh true K M O S z (K + M) (ofs K M O S) kn

set_option maxRecDepth 100000 in
set_option maxHeartbeats 4000000 in
theorem pwants_none (p o Ln : Nat) (tt : TypeId) (hh : Nat → Value) (w : World) (hc : CatNone w p o Ln tt hh) :
    Calls Try.prog 36 #[.pointer (some ⟨p, o, none⟩)] w fun e w' => e = .returned (.int .i64 (-1)) ∧ w' = w := by
  obtain ⟨c0, _⟩ := hc.head
  clear hc
  go_enter Try.func36, Try.ntmps36
  go_wp2_with fail
  go_ret
  exact ⟨rfl, rfl⟩

set_option maxRecDepth 100000 in
set_option maxHeartbeats 4000000 in
theorem pwants_has (p o Ln : Nat) (tt : TypeId) (hh : Nat → Value) (K M O S z : Nat) (kn : Kn) (w : World) (hK : K ≤ 20) (hc : CatHas w p o Ln tt hh K M O S z kn) :
    Calls Try.prog 36 #[.pointer (some ⟨p, o, none⟩)] w fun e w' => e = .returned (.int .i64 (openK kn K : Int)) ∧ w' = w := by
  obtain ⟨c0, _⟩ := hc.head
  have hn := qneed_any p (o + 6) Ln tt _ K (K + M) z (ofs K M O S) kn w hK hc.box
  clear hc
  generalize openK kn K = nd at *
  go_enter Try.func36, Try.ntmps36
  go_wp2_with fail
  refine hn.mono ?_
  rintro e w1 ⟨rfl, h1⟩
  obtain rfl := h1.symm
  go_wp2_with fail
  go_ret
  exact ⟨rfl, rfl⟩

end Go.Proofs.Ytnjaofkieajnlab

/- The document's own data of an object. -/
namespace Go.Proofs.Ytnjaofkieajnlab
open Go.RowKit

/-- The two bytes of a length. -/
def lenB (n : Nat) : ByteArray := ⟨#[UInt8.ofNat (n % 256), UInt8.ofNat (n / 256)]⟩

theorem numsB_len (n : Nat) (h : n ≤ 65535) : numsB (lenB n) = [((n % 256 : Nat) : Int), ((n / 256 : Nat) : Int)] := by
  show [((UInt8.ofNat (n % 256)).toNat : Int), ((UInt8.ofNat (n / 256)).toNat : Int)] = _
  rw [ofNat_u8 (n % 256) (by omega), ofNat_u8 (n / 256) (by omega)]

/-- The text of an object's data, for N bytes. -/
def objT (N : Nat) (o : ByteArray) : ByteArray := lenB o.size ++ o ++ zeroB (N - (2 + o.size))

/-- The pieces of a text. -/
def cutTo (t : ByteArray) (z : Nat) : Nat → List ByteArray
  | 0 => []
  | j + 1 => cutTo t z j ++ [t.extract (j * z) (j * z + z)]

theorem cutTo_length (t : ByteArray) (z j : Nat) : (cutTo t z j).length = j := by
  induction j with
  | zero => rfl
  | succ j ih => show (cutTo t z j ++ [_]).length = _; rw [List.length_append, ih]; rfl

/-- How long a text is. -/
def lenV (v : Value) : Nat := match v with
  | .string b => b.size
  | _ => 0

theorem pad_succ (t : ByteArray) (k : Nat) : t ++ zeroB k ++ ⟨#[0]⟩ = t ++ zeroB (k + 1) := by
  rw [ByteArray.append_assoc, zeroB_succ]

end Go.Proofs.Ytnjaofkieajnlab

/- The document's own Send. -/
namespace Go.Proofs.Ytnjaofkieajnlab
open Go.RowKit

/-- The packets of a word's first pieces. -/
def packTo (K M O S z : Nat) (P : List ByteArray) : Nat → List ByteArray
  | 0 => []
  | i + 1 => packTo K M O S z P i ++ [packB K M O S z i (P.getD i ByteArray.empty)]

theorem packTo_length (K M O S z : Nat) (P : List ByteArray) (i : Nat) : (packTo K M O S z P i).length = i := by
  induction i with
  | zero => rfl
  | succ i ih => show (packTo K M O S z P i ++ [_]).length = _; rw [List.length_append, ih]; rfl

theorem cutTo_size (t : ByteArray) (z j : Nat) (h : j * z ≤ t.size) : ∀ x ∈ cutTo t z j, x.size = z := by
  induction j with
  | zero => intro x hx; simp [cutTo] at hx
  | succ j ih =>
    intro x hx
    rw [Nat.succ_mul] at h
    rcases List.mem_append.1 (show x ∈ cutTo t z j ++ [t.extract (j * z) (j * z + z)] from hx) with hx | hx
    · exact ih (by omega) x hx
    · simp at hx; subst hx
      rw [ByteArray.size_extract]; omega

theorem objT_size (N : Nat) (o : ByteArray) (h : o.size + 2 ≤ N) : (objT N o).size = N := by
  unfold objT
  rw [ByteArray.size_append, ByteArray.size_append, zeroB_size]
  show 2 + o.size + (N - (2 + o.size)) = N
  omega

theorem shape_made {l : List ByteArray} {n z : Nat} (hl : l.length = n) (hn : 0 < n) (hs : ∀ x ∈ l, x.size = z) (hz : 1 ≤ z ∧ z ≤ 16) : Shaped l n ∧ (l.getD 0 ByteArray.empty).size = z := by
  have hget : ∀ k, k < l.length → (l.getD k ByteArray.empty).size = z := fun k hk => hs _ (by rw [List.getD_eq_getElem?_getD, List.getElem?_eq_getElem hk]; exact List.getElem_mem hk)
  exact ⟨⟨hl, fun k hk => by rw [hget k hk, hget 0 (by omega)]; omega⟩, hget 0 (by omega)⟩

/-- What is owned from a place on is owned from a lower one on. -/
theorem owns_low {w : World} {base base' : Nat} {e : TypeId} {size : Nat} {v : Value} {n : Nat} {xs : List Value} (h : w.ownsRow base e size v n xs) (hb : base' ≤ base) : w.ownsRow base' e size v n xs := by
  refine ⟨h.1, ?_⟩
  rcases h.2 with h2 | ⟨g, cap, cur, h1, h2, h3⟩
  · exact Or.inl h2
  · exact Or.inr ⟨g, cap, cur, h1, Nat.le_trans hb h2, h3⟩

/-- An object's word. -/
def objWord (K M O S z : Nat) (o : ByteArray) : List ByteArray := knownTo (cutTo (objT (K * z) o) z K) (rowOf K M O S) z M

end Go.Proofs.Ytnjaofkieajnlab

/- The document's own Object: whose data these are. -/
namespace Go.Proofs.Ytnjaofkieajnlab
open Go.RowKit

/-- The first texts of a list, joined. -/
def catTo (l : List ByteArray) : Nat → ByteArray
  | 0 => ByteArray.empty
  | i + 1 => catTo l i ++ l.getD i ByteArray.empty

theorem catTo_le (l : List ByteArray) (i d : Nat) : (catTo l i).size ≤ (catTo l (i + d)).size := by
  induction d with
  | zero => exact Nat.le_refl _
  | succ d ih =>
    show _ ≤ (catTo l (i + d) ++ l.getD (i + d) ByteArray.empty).size
    rw [ByteArray.size_append]
    omega

/-- The length that data tell. -/
def objLen (t : ByteArray) : Nat := (byteAt t 0).toNat + 256 * (byteAt t 1).toNat

/-- The object of data. -/
def objText (t : ByteArray) : ByteArray := if objLen t + 2 ≤ t.size then t.extract 2 (2 + objLen t) else ByteArray.empty

/-- Whether data are an object's. -/
def objOk (t : ByteArray) : Bool := if objLen t + 2 ≤ t.size then decide (t.extract (2 + objLen t) t.size = zeroB (t.size - (2 + objLen t))) else false

end Go.Proofs.Ytnjaofkieajnlab

/- Lists of facts in memory, and the document's own stairs. -/
namespace Go.Proofs.Ytnjaofkieajnlab
open Go.RowKit

/-- Facts as values: two cells each. -/
def factV : List Fct → List Value
  | [] => []
  | f :: l => .int .i64 (f.1 : Int) :: .string f.2 :: factV l

theorem factV_append (a b : List Fct) : factV (a ++ b) = factV a ++ factV b := by
  induction a with
  | nil => rfl
  | cons f a ih => simp [factV, ih]

theorem factV_length (l : List Fct) : (factV l).length = l.length * 2 := by
  induction l with
  | nil => rfl
  | cons f l ih => simp [factV, ih]; omega

theorem factV_get (l : List Fct) (k : Nat) (h : k < l.length) : (factV l)[k * 2]? = some (.int .i64 ((l.getD k (0, ByteArray.empty)).1 : Int)) ∧ (factV l)[k * 2 + 1]? = some (.string (l.getD k (0, ByteArray.empty)).2) := by
  induction l generalizing k with
  | nil => simp at h
  | cons f l ih =>
    cases k with
    | zero => exact ⟨rfl, rfl⟩
    | succ k =>
      have := ih k (by simpa using h)
      rw [show (k + 1) * 2 = k * 2 + 1 + 1 from by omega]
      exact this

theorem factV_one (l : List Fct) : ∀ u ∈ factV l, u.oneCell' = true := by
  induction l with
  | nil => intro u hu; simp [factV] at hu
  | cons f l ih =>
    intro u hu
    simp only [factV, List.mem_cons] at hu
    rcases hu with rfl | rfl | hu
    · rfl
    · rfl
    · exact ih u hu

/-- A list of facts, as it is read. -/
def FactsAt (w : World) (v : Value) (l : List Fct) : Prop :=
  ∃ ao cap, v = .slice ao l.length cap ∧ l.length ≤ cap ∧ ∀ k, k < l.length → ∃ q, ao = some ⟨q, 0, none⟩ ∧ q < w.heap.size ∧ w.cell? ⟨q, k * 2, none⟩ = some (.int .i64 ((l.getD k (0, ByteArray.empty)).1 : Int)) ∧ w.cell? ⟨q, k * 2 + 1, none⟩ = some (.string (l.getD k (0, ByteArray.empty)).2)

theorem FactsAt.on {w w1 : World} {v : Value} {l : List Fct} {n : Nat} (h : FactsAt w v l) (hn : w.heap.size ≤ n) (hb : Below n w w1) : FactsAt w1 v l := by
  obtain ⟨ao, cap, hv, hc, h⟩ := h
  refine ⟨ao, cap, hv, hc, fun k hk => ?_⟩
  obtain ⟨q, ha, hq, h1, h2⟩ := h k hk
  refine ⟨q, ha, Nat.lt_of_lt_of_le hq hb.size, ?_⟩
  rw [hb.cell (Nat.lt_of_lt_of_le hq hn), hb.cell (Nat.lt_of_lt_of_le hq hn)]
  exact ⟨h1, h2⟩

theorem facts_news {w : World} {q : Nat} {l : List Fct} (h : ∀ k, k < l.length → ∃ p, some (⟨q, 0, none⟩ : Addr) = some ⟨p, 0, none⟩ ∧ p < w.heap.size ∧ w.cell? ⟨p, k * 2, none⟩ = some (.int .i64 ((l.getD k (0, ByteArray.empty)).1 : Int)) ∧ w.cell? ⟨p, k * 2 + 1, none⟩ = some (.string (l.getD k (0, ByteArray.empty)).2)) :
    ∀ j u, (factV l)[j]? = some u → w.cell? ((⟨q, 0, none⟩ : Addr).add j) = some u := by
  intro j u hu
  have hj : j < l.length * 2 := by have := (List.getElem?_eq_some_iff.1 hu).1; rwa [factV_length] at this
  have hadd : (⟨q, 0, none⟩ : Addr).add j = ⟨q, j, none⟩ := by unfold Addr.add; split <;> simp_all
  rw [hadd]
  obtain ⟨p, hp, _, h1, h2⟩ := h (j / 2) (by omega)
  obtain ⟨g1, g2⟩ := factV_get l (j / 2) (by omega)
  simp only [Option.some.injEq, Addr.mk.injEq] at hp
  obtain ⟨rfl, _⟩ := hp
  rcases Nat.mod_two_eq_zero_or_one j with hm | hm
  · have e : j / 2 * 2 = j := by omega
    rw [e] at h1 g1
    rw [h1, ← g1, hu]
  · have e : j / 2 * 2 + 1 = j := by omega
    rw [e] at h2 g2
    rw [h2, ← g2, hu]

/-- What found holds. -/
def foundB (o : Option Fct) : Array Value := match o with
  | none => #[.int .i64 0, .string ByteArray.empty]
  | some g => #[.int .i64 (g.1 : Int), .string g.2]

def sifted (bit : Nat) (l : List Fct) (k : Nat) : List Fct × Option Fct := (l.take k).foldl (siftStep bit) ([], none)

theorem sifted_succ (bit : Nat) (l : List Fct) (k : Nat) (h : k < l.length) : sifted bit l (k + 1) = siftStep bit (sifted bit l k) (l.getD k (0, ByteArray.empty)) := by
  unfold sifted
  rw [List.take_succ_eq_append_getElem h, List.foldl_append, List.getD_eq_getElem?_getD, List.getElem?_eq_getElem h]; rfl

theorem sifted_all (bit : Nat) (l : List Fct) : sifted bit l l.length = sift bit l := by unfold sifted sift; rw [List.take_length]

theorem siftStep_len (bit : Nat) (st : List Fct × Option Fct) (f : Fct) : (siftStep bit st f).1.length + (siftStep bit st f).2.toList.length ≤ st.1.length + st.2.toList.length + 1 := by
  obtain ⟨r, o⟩ := st
  unfold siftStep
  by_cases h : f.1.testBit bit = true
  · rw [if_pos h]
    cases o <;> simp
  · rw [if_neg h]
    simp; omega

theorem sifted_len (bit : Nat) (l : List Fct) (k : Nat) (h : k ≤ l.length) : (sifted bit l k).1.length + (sifted bit l k).2.toList.length ≤ k := by
  induction k with
  | zero => simp [sifted]
  | succ k ih =>
    rw [sifted_succ bit l k (by omega)]
    have := siftStep_len bit (sifted bit l k) (l.getD k (0, ByteArray.empty))
    have := ih (by omega)
    omega

theorem sifted_found (bit z : Nat) (l : List Fct) (k : Nat) (hs : Sized z l) {g : Fct} (h : (sifted bit l k).2 = some g) : g ∈ l ∧ g.1.testBit bit = true := by
  have h1 := (sift_ok bit z (l.take k) (fun x hx => hs x (List.mem_of_mem_take hx))).found g h
  exact ⟨List.mem_of_mem_take h1.1, h1.2⟩

theorem stairsTo_len (l : List Fct) (n : Nat) : (stairsTo l n).1.length + (stairsTo l n).2.length ≤ l.length := by
  induction n with
  | zero => simp [stairsTo]
  | succ n ih =>
    have h := sifted_len (39 - n) (stairsTo l n).2 _ (Nat.le_refl _)
    rw [sifted_all] at h
    show ((stairsTo l n).1 ++ (sift (39 - n) (stairsTo l n).2).2.toList).length + (sift (39 - n) (stairsTo l n).2).1.length ≤ _
    rw [List.length_append]; omega

theorem low_lt {n : Nat} {l : List Fct} (h : Low n l) (hn : n ≤ 40) {f : Fct} (hf : f ∈ l) : f.1 < 1099511627776 := by
  have : f.1 < 2 ^ 40 := Nat.lt_pow_two_of_testBit _ (fun i hi => h f hf i (by omega))
  omega

theorem found_frozen {w : World} {q : Nat} {cs : Array Value} {t : TypeId} (h : w.heap[q]? = some (.cells cs t (0, 0))) (i : Nat) : w.frozen? ⟨q, i, none⟩ = false := by
  simp [World.frozen?, h]

theorem heap_alloc2 (w : World) (a b : Obj) : ((w.alloc a).alloc b).heap[w.heap.size + 1]? = some b := by
  have h := heap_alloc_new (w.alloc a) b
  rwa [World.size_alloc] at h

end Go.Proofs.Ytnjaofkieajnlab

/- The document's own told: what facts say of the sum of some pieces. -/
namespace Go.Proofs.Ytnjaofkieajnlab
open Go.RowKit

theorem stairsAll_all (z : Nat) (l : List Fct) (hs : Sized z l) (hl : Low 40 l) (n : Nat) (hn : n = 40) : Sized z (stairsAll l n) ∧ ∀ f ∈ stairsAll l n, f.1 < 1099511627776 := by
  have hk := stair_ok z l hs hl n (by omega)
  refine ⟨hk.sized, fun f hf => ?_⟩
  have h1 := sp_low (l.map Prod.fst) 40 (fun x hx j hj => by obtain ⟨g, hg, rfl⟩ := List.mem_map.1 hx; exact hl g hg j hj) ((sp_iff l f.1).2 ⟨_, hk.back f hf⟩)
  have h2 : f.1 < 2 ^ 40 := Nat.lt_pow_two_of_testBit _ (fun i hi => h1 i hi)
  omega

theorem stairs_all (z : Nat) (l : List Fct) (hs : Sized z l) (hl : Low 40 l) : Sized z (stairs l) ∧ ∀ f ∈ stairs l, f.1 < 1099511627776 := stairsAll_all z l hs hl 40 rfl

theorem stairsAll_len (l : List Fct) (n : Nat) : (stairsAll l n).length ≤ l.length := by
  have := stairsTo_len l n
  show ((stairsTo l n).1 ++ (stairsTo l n).2).length ≤ _
  rw [List.length_append]; exact this

theorem stairs_len (l : List Fct) : (stairs l).length ≤ l.length := stairsAll_len l 40

/-- What is told as far as k. -/
def telling (S : List Fct) (st : Nat × ByteArray) (k : Nat) : Nat × ByteArray := tell (S.take k) st

theorem telling_succ (S : List Fct) (st : Nat × ByteArray) (k : Nat) (h : k < S.length) : telling S st (k + 1) = tellStep (telling S st k) (S.getD k (0, ByteArray.empty)) := by
  unfold telling tell
  rw [List.take_succ_eq_append_getElem h, List.foldl_append, List.getD_eq_getElem?_getD, List.getElem?_eq_getElem h]; rfl

theorem telling_all (S : List Fct) (st : Nat × ByteArray) : telling S st S.length = tell S st := by unfold telling; rw [List.take_length]

theorem log2_up {x h : Nat} (hx : x < 1099511627776) (hh : h ≤ x.log2) : (h < 40 ∧ (1 : Int) < (x : Int) / 2 ^ h ∧ h + 1 ≤ x.log2) ∨ (h = x.log2 ∧ h < 40 ∧ ¬ (1 : Int) < (x : Int) / 2 ^ h) := by
  have h40 : x.log2 < 40 := by
    by_cases h0 : x = 0
    · subst h0; decide
    · exact (Nat.log2_lt h0).2 (by omega)
  rw [div_cast]
  by_cases hlt : h < x.log2
  · refine Or.inl ⟨by omega, ?_, hlt⟩
    have h0 : x ≠ 0 := fun e => by subst e; simp at hlt
    have h1 : 2 ^ (h + 1) ≤ x := (Nat.le_log2 h0).1 hlt
    have h2 : 2 ≤ x / 2 ^ h := (Nat.le_div_iff_mul_le (Nat.two_pow_pos h)).2 (by rw [Nat.pow_succ] at h1; omega)
    omega
  · have he : h = x.log2 := by omega
    refine Or.inr ⟨he, by omega, ?_⟩
    have h1 : x < 2 ^ (h + 1) := by rw [he]; exact Nat.lt_log2_self
    have h2 : x / 2 ^ h < 2 := Nat.div_lt_of_lt_mul (by rw [Nat.pow_succ] at h1; omega)
    omega

end Go.Proofs.Ytnjaofkieajnlab

/- The document's own boxes: facts. -/
namespace Go.Proofs.Ytnjaofkieajnlab
open Go.RowKit

/-- A list of numbers, as it is read. -/
def NumsAt (w : World) (v : Value) (l : List Nat) : Prop :=
  ∃ ao cap, v = .slice ao l.length cap ∧ l.length ≤ cap ∧ ∀ k, k < l.length → ∃ q o, ao = some ⟨q, o, none⟩ ∧ q < w.heap.size ∧ w.cell? ⟨q, o + k, none⟩ = some (.int .i64 (l.getD k 0 : Int))

theorem NumsAt.on {w w1 : World} {v : Value} {l : List Nat} (h : NumsAt w v l) (hb : Below w.heap.size w w1) : NumsAt w1 v l := by
  obtain ⟨ao, cap, hv, hl, hc⟩ := h
  refine ⟨ao, cap, hv, hl, fun k hk => ?_⟩
  obtain ⟨q, o, ha, hq, hcell⟩ := hc k hk
  exact ⟨q, o, ha, Nat.lt_of_lt_of_le hq hb.size, by rw [hb.cell hq]; exact hcell⟩

theorem rowBits_lt (row : List Nat) (h : ∀ j ∈ row, j < 40) : rowBits row < 1099511627776 := by
  have : rowBits row < 2 ^ 40 := Nat.lt_pow_two_of_testBit _ (fun i hi => by
    rw [testBit_rowBits]
    exact decide_eq_false (fun hm => by have := h i hm; omega))
  omega

theorem rowBits_take (row : List Nat) (k : Nat) (h : k < row.length) : rowBits (row.take (k + 1)) = rowBits (row.take k) ||| 2 ^ row.getD k 0 := by
  unfold rowBits
  rw [List.take_succ_eq_append_getElem h, List.foldl_append, List.getD_eq_getElem?_getD, List.getElem?_eq_getElem h]; rfl

theorem puts_take (ps : List (Nat × ByteArray)) (k : Nat) (h : k < ps.length) : (putFacts ps).take (k + 1) = (putFacts ps).take k ++ [(2 ^ (ps.map Prod.fst).getD k 0, (ps.map Prod.snd).getD k ByteArray.empty)] := by
  have hl : k < (putFacts ps).length := by simpa [putFacts] using h
  rw [List.take_succ_eq_append_getElem hl]
  simp [putFacts, h]

theorem pow_lt (j : Nat) (h : j < 40) : 2 ^ j < 1099511627776 := Nat.lt_of_lt_of_le (Nat.pow_lt_pow_right (by omega) h) (by decide)

theorem shl_nat (x : Nat) (h : x < 40) : RowKit.wrap64 (2 ^ x) = ((2 ^ x : Nat) : Int) := by
  have h1 := pow_lt x h
  have h2 : (2 : Int) ^ x = ((2 ^ x : Nat) : Int) := by rw [Int.natCast_pow]; rfl
  rw [h2]
  generalize 2 ^ x = y at *
  unfold RowKit.wrap64
  omega

theorem shl_wrap (x : Nat) (h : x < 40) : IntKind.i64.wrap (2 ^ x) = ((2 ^ x : Nat) : Int) := by
  have h1 := pow_lt x h
  have h2 : (2 : Int) ^ x = ((2 ^ x : Nat) : Int) := by rw [Int.natCast_pow]; rfl
  rw [h2]
  exact wrapNat _ (by omega)

end Go.Proofs.Ytnjaofkieajnlab

/- The program's box as it is called: Get, Put and Need. -/
namespace Go.Proofs.Ytnjaofkieajnlab
open Go.RowKit

theorem below_chg {S : Nat → Prop} {w wr w2 : World} (h : Below w.heap.size w wr) (hc : Chg S wr w2) (hs : ∀ k, S k → w.heap.size ≤ k) : Below w.heap.size w w2 :=
  ⟨hc.os.trans h.os, hc.tape.trans h.tape, hc.output.trans h.output, Nat.le_trans h.size hc.size, fun k hk => (hc.block k (Nat.lt_of_lt_of_le hk h.size) (fun s => by have := hs k s; omega)).trans (h.block k hk)⟩

theorem get_arg (p K n z : Nat) (i : Int) (of : Nat → Nat) (kn : Kn) (w : World) (hi : i < 0 ∨ (n : Int) ≤ i) (hbox : BoxAt w p K n z of kn) :
    Calls Try.prog 12 #[.pointer (some ⟨p, 0, none⟩), .int .i64 i] w fun e w' => e = .returned (.tuple #[.string ⟨#[]⟩, .int .i64 2]) ∧ w' = w := by
  go_enter Try.func12, Try.ntmps12
  go_wp2_with fail
  refine (bget_arg p K n z i of kn _ hi hbox).mono ?_
  rintro e w1 ⟨rfl, rfl⟩
  go_wp2_with fail
  go_ret2
  exact ⟨rfl, rfl⟩

set_option maxRecDepth 100000 in
set_option maxHeartbeats 4000000 in
theorem get_ok (p K n z i : Nat) (of : Nat → Nat) (kn : Kn) (w : World) (hK : K ≤ 20) (hkn : KnOk K z kn) (hof : ∀ i, of i < 2 ^ K) (hz : z ≤ 1000) (hn : n ≤ 40) (hi : i < n) (hbox : BoxAt w p K n z of kn) :
    Calls Try.prog 12 #[.pointer (some ⟨p, 0, none⟩), .int .i64 (i : Int)] w fun e w' => e = .returned (.tuple (if (left kn (of i) (zeroB z)).1 = 0 then #[.string (left kn (of i) (zeroB z)).2, .int .i64 0] else #[.string ⟨#[]⟩, .int .i64 5])) ∧ Below w.heap.size w w' := by
  have hget := bget_ok p K n z i of kn
  generalize left kn (of i) (zeroB z) = L at *
  go_enter Try.func12, Try.ntmps12
  go_wp2_with fail
  refine (hget _ hK hkn hof hz hn hi hbox).mono ?_
  rintro e w1 ⟨rfl, hb⟩
  clear hget hbox
  by_cases h0 : L.1 = 0
  · rw [if_pos h0]
    go_wp2_with fail
    go_ret2
    exact ⟨by first | rfl | (rw [if_pos h0]; rfl), hb⟩
  · rw [if_neg h0]
    go_wp2_with fail
    go_ret2
    exact ⟨by first | rfl | (rw [if_neg h0]; rfl), hb⟩

set_option maxRecDepth 100000 in
set_option maxHeartbeats 4000000 in
theorem need_any (p K n z : Nat) (of : Nat → Nat) (kn : Kn) (w : World) (hK : K ≤ 20) (hbox : BoxAt w p K n z of kn) :
    Calls Try.prog 16 #[.pointer (some ⟨p, 0, none⟩)] w fun e w' => e = .returned (.int .i64 (openK kn K : Int)) ∧ w' = w := by
  go_enter Try.func16, Try.ntmps16
  go_wp2_with fail
  refine (bneed_any p K n z of kn _ hK hbox).mono ?_
  rintro e w1 ⟨rfl, rfl⟩
  go_wp2_with fail
  go_ret
  exact ⟨rfl, rfl⟩

theorem put_arg (p K n z : Nat) (i : Int) (t : ByteArray) (of : Nat → Nat) (kn : Kn) (w : World) (hi : i < 0 ∨ (n : Int) ≤ i) (hbox : BoxAt w p K n z of kn) :
    Calls Try.prog 15 #[.pointer (some ⟨p, 0, none⟩), .int .i64 i, .string t] w fun e w' => e = .returned (.int .i64 2) ∧ w' = w := by
  go_enter Try.func15, Try.ntmps15
  go_wp2_with fail
  refine (bput_arg p K n z i t of kn _ hi hbox).mono ?_
  rintro e w1 ⟨rfl, rfl⟩
  go_wp2_with fail
  go_ret
  exact ⟨rfl, rfl⟩

theorem put_shape (p K n z i : Nat) (t : ByteArray) (of : Nat → Nat) (kn : Kn) (w : World) (hi : i < n) (ht : t.size ≠ z) (hbox : BoxAt w p K n z of kn) :
    Calls Try.prog 15 #[.pointer (some ⟨p, 0, none⟩), .int .i64 (i : Int), .string t] w fun e w' => e = .returned (.int .i64 3) ∧ w' = w := by
  go_enter Try.func15, Try.ntmps15
  go_wp2_with fail
  refine (bput_shape p K n z i t of kn _ hi ht hbox).mono ?_
  rintro e w1 ⟨rfl, rfl⟩
  go_wp2_with fail
  go_ret
  exact ⟨rfl, rfl⟩

set_option maxRecDepth 100000 in
set_option maxHeartbeats 4000000 in
theorem put_ok (p K n z i : Nat) (t : ByteArray) (of : Nat → Nat) (kn : Kn) (w : World) (hK : K ≤ 20) (hkn : KnOk K z kn) (hof : ∀ i, of i < 2 ^ K) (hz : z ≤ 1000) (hn : n ≤ 40) (hi : i < n) (ht : t.size = z) (hbox : BoxAt w p K n z of kn) :
    Calls Try.prog 15 #[.pointer (some ⟨p, 0, none⟩), .int .i64 (i : Int), .string t] w fun e w' => e = .returned (.int .i64 (putE (left kn (of i) t) z)) ∧ BoxAt w' p K n z of (putK kn (of i) t) ∧ Chg (fun k => k = p) w w' := by
  go_enter Try.func15, Try.ntmps15
  go_wp2_with fail
  refine (bput_ok p K n z i t of kn _ hK hkn hof hz hn hi ht hbox).mono ?_
  rintro e w1 ⟨rfl, hb, hc⟩
  go_wp2_with fail
  go_ret
  exact ⟨rfl, hb, hc⟩

end Go.Proofs.Ytnjaofkieajnlab

/- The document's own boxes in memory; Get; what Put makes of them. -/
namespace Go.Proofs.Ytnjaofkieajnlab
open Go.RowKit

end Go.Proofs.Ytnjaofkieajnlab

namespace Go.Proofs.Ytnjaofkieajnlab
open Go.RowKit

/-- The blocks of such a box. -/
def fpR (r : Nat) (av pv : Value) (k : Nat) : Prop := k = r ∨ av.ownBlock = some k ∨ pv.ownBlock = some k

theorem owns_nums {w : World} {base : Nat} {v : Value} {l : List Nat} {n : Nat} (h : w.ownsRow base 3 1 v n (numsV l)) (hn : n = l.length) : NumsAt w v l := by
  subst hn
  rcases owns_cells h with ⟨rfl, rfl⟩ | ⟨g, cap, rfl, h1, hcell⟩
  · exact ⟨none, 0, rfl, Nat.le_refl _, fun k hk => by simp at hk⟩
  · refine ⟨_, cap, rfl, h1, fun k hk => ⟨g, 0, rfl, (h.lt g rfl).2, ?_⟩⟩
    rw [Nat.zero_add]; exact hcell k hk

/-- Blocks of two types are two. -/
theorem owns_other {w : World} {base : Nat} {e t : TypeId} {size n k : Nat} {v : Value} {xs : List Value} {cs : Array Value} {fr : Nat × Nat} (h : w.ownsRow base e size v n xs) (hb : w.heap[k]? = some (.cells cs t fr)) (hne : e ≠ t) : v.ownBlock ≠ some k := by
  intro hk
  obtain ⟨cur, hcur⟩ := owns_block h hk
  rw [hb] at hcur
  simp at hcur
  exact hne hcur.2.1.symm

theorem owns_parted {w : World} {b1 b2 : Nat} {e t : TypeId} {s1 s2 n m k : Nat} {v u : Value} {xs ys : List Value} (h : w.ownsRow b1 e s1 v n xs) (h2 : w.ownsRow b2 t s2 u m ys) (hne : e ≠ t) (hk : v.ownBlock = some k) : u.ownBlock ≠ some k := by
  obtain ⟨cur, hcur⟩ := owns_block h hk
  exact owns_other h2 hcur (fun e => hne e.symm)

namespace RBoxAt
variable {w w' w2 : World} {r K M O S z : Nat} {av pv : Value} {ps : List (Nat × ByteArray)}

end RBoxAt

end Go.Proofs.Ytnjaofkieajnlab
