/- Texts of the proof, part 13. -/
import Derived.BigQuiet
import Derived.BigRegion
import Derived.Deep.MidRow
import Derived.Laws.ResultCell
import Derived.Test.YtnjaofkieajnlaaKnownG11
import Derived.Test.YtnjaofkieajnlaaKnownG7
import Derived.Test.YtnjaofkieajnlaaKnownG8

/- The program's read of a packet. -/
namespace Go.Proofs.Ytnjaofkieajnlaa
open Go.RowKit

theorem mayb_below (K M O S : Int) (w : World) :
    Calls Try.prog 75 #[specV K M O S] w fun e w' => e = .returned (.bool (mayB K M O S)) ∧ Below w.heap.size w w' :=
  (maybe_any K M O S w).mono fun _ _ ⟨he, hw⟩ => ⟨he, by rw [hw]; exact (Below.refl _ _).alloc (Nat.le_refl _) _⟩

theorem Try.sizePk : (Try.prog.info? 107).map (·.size) = some 7 := by kernel_rfl

theorem pk_one (K M O S z i : Int) (p : ByteArray) : (pkC K M O S z i p).all (fun x => x.oneCell') = true := by
  simp [Value.oneCell']

theorem results_pread (tmps : Array Value) (w : World) (g : Nat) (K M O S z i : Int) (q : ByteArray) (fr : Nat × Nat) (hp : tmps.getD 2 undef = .pointer (some ⟨g, 0, none⟩)) (hg : w.heap[g]? = some (.cells (pkC K M O S z i q) 107 fr)) :
    (results Try.f90 tmps).run Try.prog w = .ok (.tuple #[.agg (pkC K M O S z i q), tmps.getD 3 undef]) w := by
  have hl := run_loadVar_row (P := Try.prog) w g 107 107 _ fr _ hg Try.underlying107 rfl Try.sizePk
  have hp' : tmps[2]?.getD undef = .pointer (some ⟨g, 0, none⟩) := by simpa using hp
  simp [results, Try.results90, hp', asAddr, hl]

/-- The packet that is none. -/
abbrev pk0 : Array Value := pkC 0 0 0 0 0 0 ⟨#[]⟩

set_option maxRecDepth 100000 in
set_option maxHeartbeats 8000000 in
theorem pread_short (p : ByteArray) (w : World) (hp : (p.size : Int) < 8 ∨ (8 ≤ p.size ∧ byteAt p 0 ≠ 82)) :
    Calls Try.prog 90 #[.string p] w fun e w' => e = .returned (.tuple #[.agg pk0, .bool false]) ∧ Below w.heap.size w w' := by
  have hbA : Below w.heap.size w (w.alloc (.cells pk0 107)) := (Below.refl _ _).alloc (Nat.le_refl _) _
  have hres : (w.alloc (.cells pk0 107)).heap[w.heap.size]? = some (.cells pk0 107 (0, 0)) := heap_alloc_new w _
  have hone := pk_one 0 0 0 0 0 0 ⟨#[]⟩
  have hf1 := setRow_heap _ _ _ pk0 _ _ hres
  have hf2 : Below w.heap.size w ((w.alloc (.cells pk0 107)).setRow w.heap.size pk0) := ((Chg.of_below hbA (fun _ => False)).setRow (Or.inl (Nat.le_refl _)) _).below (fun _ _ f => f)
  have Hf1 := hide hf1
  have Hf2 := hide hf2
  have Hres := hide hres
  clear hf1 hf2 hbA hres
  rcases hp with hp | ⟨hp, h0⟩
  · go_enter Try.func90, Try.ntmps90
    go_wp2_with (first | (refine wpList_store_row rfl 107 (.tmp 2) (.tmp 15) rfl w.heap.size pk0 rfl rfl 107 pk0 Hres.out Try.sizePk rfl hone ?_))
    exact bodyPost_ret (results_pread _ _ w.heap.size 0 0 0 0 0 0 _ _ rfl Hf1.out) rfl ⟨rfl, Hf2.out⟩
  · have hl1 : ¬ (p.size : Int) < 8 := by omega
    have g0 := byteAt_get p 0 (by omega)
    have i0 : (0 : Int) < (p.size : Int) := by omega
    have b0 := (byteAt p 0).toNat_lt
    have h0b : (((byteAt p 0).toNat : Int) != 82) = true := by
      simp only [bne_iff_ne, ne_eq]
      intro e
      exact h0 (UInt8.toNat_inj.1 (by show (byteAt p 0).toNat = 82; omega))
    clear h0
    go_enter Try.func90, Try.ntmps90
    go_wp2_with (first | (refine wpList_store_row rfl 107 (.tmp 2) (.tmp 15) rfl w.heap.size pk0 rfl rfl 107 pk0 Hres.out Try.sizePk rfl hone ?_))
    exact bodyPost_ret (results_pread _ _ w.heap.size 0 0 0 0 0 0 _ _ rfl Hf1.out) rfl ⟨rfl, Hf2.out⟩

abbrev pkL (K M O S z i : Int) (p : ByteArray) : List Value := [.int .i64 K, .int .i64 M, .int .i64 O, .int .i64 S, .int .i64 z, .int .i64 i, .string p]

/-- 'build' at a packet, kept whole. -/
noncomputable def builtPk (parts : Array (Nat × Value)) : Sem Value := Instr.build 107 parts

theorem build_maskPk (parts : Array (Nat × Value)) : Instr.build 107 parts = builtPk parts := rfl

theorem built_pk (K M O S z i : Int) (p : ByteArray) : Try.prog.built 107 [(0, specV K M O S), (1, .int .i64 z), (2, .int .i64 i), (3, .string p)] = some (pkL K M O S z i p).toArray := by kernel_rfl

theorem pk_build (K M O S z i : Int) (p : ByteArray) (w : World) : (builtPk #[(0, specV K M O S), (1, .int .i64 z), (2, .int .i64 i), (3, .string p)]).run Try.prog w = .ok (.agg (pkL K M O S z i p).toArray) w :=
  run_build (P := Try.prog) w 107 #[(0, specV K M O S), (1, .int .i64 z), (2, .int .i64 i), (3, .string p)] _ (built_pk K M O S z i p)

theorem pk_there {w : World} {b : Nat} {K M O S z i : Int} {p : ByteArray} {t : TypeId} (h : w.heap[b]? = some (.cells (pkC K M O S z i p) t (0, 0))) : w.there b 0 7 := fun j hj => by
  rw [Nat.zero_add, cell_of_row _ _ _ _ _ _ h, Array.getElem?_eq_getElem (show j < (pkC K M O S z i p).size from hj)]
  exact ⟨rfl, by simp [World.frozen?, h]⟩

theorem pk_store (b : Nat) (K M O S z i : Int) (p : ByteArray) (w : World) (ht : w.there b 0 7) : (storeCells ⟨b, 0, none⟩ (pkL K M O S z i p)).run Try.prog w = .ok () (w.setCells b 0 (pkL K M O S z i p)) :=
  run_storeCells_cells (P := Try.prog) b 0 (pkL K M O S z i p) 0 w (fun j hj => by simpa using (ht j hj).1) (fun j hj => by simpa using (ht j hj).2) (by intro v hv; simp at hv; rcases hv with rfl | rfl | rfl | rfl | rfl | rfl | rfl <;> rfl)

theorem pk_below {n : Nat} {w w' : World} (h : Below n w w') {b : Nat} (hb : n ≤ b) : ∀ (o : Nat) (vs : List Value), Below n w (w'.setCells b o vs) := fun o vs => by
  induction vs generalizing o w' with
  | nil => exact h
  | cons v vs ih => exact ih (h.setCell hb v) (o + 1)

theorem pk_build0 (w : World) : (builtPk #[]).run Try.prog w = .ok (.agg pk0) w :=
  run_build (P := Try.prog) w 107 #[] pk0 (by kernel_rfl)

attribute [local go_sem ↓] build_maskPk

set_option maxRecDepth 100000 in
set_option maxHeartbeats 8000000 in
theorem pread_walk (p : ByteArray) (K M O S z i : Nat) (w : World) (hp : 8 ≤ p.size) (h0 : byteAt p 0 = 82) (e1 : (byteAt p 1).toNat = K) (e2 : (byteAt p 2).toNat = M) (e3 : (byteAt p 3).toNat = O) (e4 : (byteAt p 4).toNat + 256 * (byteAt p 5).toNat = S) (e6 : (byteAt p 6).toNat = z) (e7 : (byteAt p 7).toNat = i) :
    Calls Try.prog 90 #[.string p] w fun e w' => (((mayB K M O S = true ∧ 1 ≤ z ∧ z ≤ 16 ∧ i < K + M ∧ p.size = z + 9 ∧ addTo p p.size = 0) → e = .returned (.tuple #[.agg (pkC K M O S z i (p.extract 8 (8 + z))), .bool true])) ∧ (¬ (mayB K M O S = true ∧ 1 ≤ z ∧ z ≤ 16 ∧ i < K + M ∧ p.size = z + 9 ∧ addTo p p.size = 0) → e = .returned (.tuple #[.agg pk0, .bool false]))) ∧ Below w.heap.size w w' := by
  have g0 := byteAt_get p 0 (by omega)
  have g1 := byteAt_get p 1 (by omega)
  have g2 := byteAt_get p 2 (by omega)
  have g3 := byteAt_get p 3 (by omega)
  have g4 := byteAt_get p 4 (by omega)
  have g5 := byteAt_get p 5 (by omega)
  have g6 := byteAt_get p 6 (by omega)
  have g7 := byteAt_get p 7 (by omega)
  have b1 := (byteAt p 1).toNat_lt
  have b2 := (byteAt p 2).toNat_lt
  have b3 := (byteAt p 3).toNat_lt
  have b4 := (byteAt p 4).toNat_lt
  have b5 := (byteAt p 5).toNat_lt
  have b6 := (byteAt p 6).toNat_lt
  have b7 := (byteAt p 7).toNat_lt
  have i0 : (0 : Int) < (p.size : Int) := by omega
  have i1 : (1 : Int) < (p.size : Int) := by omega
  have i2 : (2 : Int) < (p.size : Int) := by omega
  have i3 : (3 : Int) < (p.size : Int) := by omega
  have i4 : (4 : Int) < (p.size : Int) := by omega
  have i5 : (5 : Int) < (p.size : Int) := by omega
  have i6 : (6 : Int) < (p.size : Int) := by omega
  have i7 : (7 : Int) < (p.size : Int) := by omega
  have hl1 : ¬ (p.size : Int) < 8 := by omega
  have h0b : (((byteAt p 0).toNat : Int) != 82) = false := by rw [h0]; rfl
  have HE := hide (And.intro e1 (And.intro e2 (And.intro e3 (And.intro e4 (And.intro e6 e7)))))
  clear e1 e2 e3 e4 e6 e7 h0
  go_enter Try.func90, Try.ntmps90
  go_upto_region 3 with fail
  have hbA : Below w.heap.size w (w.alloc (.cells pk0 107)) := (Below.refl _ _).alloc (Nat.le_refl _) _
  have hres : (w.alloc (.cells pk0 107)).heap[w.heap.size]? = some (.cells pk0 107 (0, 0)) := heap_alloc_new w _
  generalize w.alloc (.cells pk0 107) = W at *
  go_cut [4] (fun s4 wc => s4 = .pointer (some ⟨W.heap.size, 0, none⟩) ∧ wc = (W.alloc (specB K M O S)).drew)
  case first =>
    go_region
    obtain ⟨e1, e2, e3, e4, e6, e7⟩ := HE.out
    have e4' : (((byteAt p 4).toNat : Int) + 256 * ((byteAt p 5).toNat : Int)) = (S : Int) := by omega
    rw [e4', e1, e2, e3]
    go_wp2_with fail
    go_meet
    case rel => exact ⟨rfl, rfl⟩
  case rest =>
  obtain ⟨rfl, rfl⟩ := hcut
  obtain ⟨e1, e2, e3, e4, e6, e7⟩ := HE.out
  rw [e1] at b1
  rw [e2] at b2
  rw [e3] at b3
  have hS : S ≤ 65535 := by omega
  clear HE e1 e2 e3 e4 b4 b5
  have hspW : (W.alloc (specB K M O S)).drew.heap[W.heap.size]? = some (specB K M O S) := heap_alloc_new W _
  have hbW : Below w.heap.size w (W.alloc (specB K M O S)).drew := (hbA.alloc hbA.size _).drew
  have hresW : (W.alloc (specB K M O S)).drew.heap[w.heap.size]? = some (.cells pk0 107 (0, 0)) := block_on hres ((Below.refl _ _).alloc (Nat.le_refl _) _).drew
  have hWn : w.heap.size ≠ W.heap.size := by have := (Array.getElem?_eq_some_iff.1 hres).1; omega
  generalize hWh : W.heap.size = h at *
  generalize hW1 : (W.alloc (specB K M O S)).drew = W1 at *
  clear hbA hres hW1 hWh
  go_wp2_with fail
  go_cut [5, 6] (fun s5 s6 wc => s5 = .int .i64 (z : Int) ∧ s6 = .int .i64 (i : Int) ∧ ∃ n, wc = W1.drewN n)
  case first =>
    go_quiet (fail)
    go_wp2_with fail
    go_meet
    case rel => exact ⟨by first | rfl | rw [e6], by first | rfl | rw [e7], _, rfl⟩
  case rest =>
  obtain ⟨rfl, rfl, nq, rfl⟩ := hcut
  rw [e6] at b6
  rw [e7] at b7
  clear e6 e7 g0 g1 g2 g3 g4 g5 g6 g7 h0b
  have hspV : (W1.drewN nq).heap[h]? = some (specB K M O S) := hspW
  have hresV : (W1.drewN nq).heap[w.heap.size]? = some (.cells pk0 107 (0, 0)) := hresW
  have hbV : Below w.heap.size w (W1.drewN nq) := hbW.trans ⟨rfl, rfl, rfl, Nat.le_refl _, fun _ _ => rfl⟩
  generalize W1.drewN nq = V at *
  clear hspW hresW hbW
  obtain ⟨c0, c1, c2, c3⟩ := spec_cells hspV
  go_wp2_with fail
  refine (mayb_below K M O S _).mono ?_
  rintro e W2 ⟨rfl, hb2⟩
  have hsp2 := block_on hspV hb2
  have hres2 := block_on hresV hb2
  have hbw2 := hbV.trans (hb2.mono hbV.size)
  clear c0 c1 c2 c3 hspV hresV hbV hb2
  obtain ⟨c0, c1, c2, c3⟩ := spec_cells hsp2
  have hf1 := setRow_heap _ _ _ pk0 _ _ hres2
  have hf2 : Below w.heap.size w (W2.setRow w.heap.size pk0) := ((Chg.of_below hbw2 (fun _ => False)).setRow (Or.inl (Nat.le_refl _)) _).below (fun _ _ f => f)
  have hone := pk_one 0 0 0 0 0 0 ⟨#[]⟩
  have Hf1 := hide hf1
  have Hf2 := hide hf2
  have Hres := hide hres2
  clear hf1 hf2
  have hbz := pk_build0
  by_cases hok : mayB K M O S = true ∧ 1 ≤ z ∧ z ≤ 16 ∧ i < K + M
  · obtain ⟨hm, hz1, hz2, hi⟩ := hok
    have n1 : ¬ (z : Int) < 1 := by omega
    have n2 : ¬ (16 : Int) < (z : Int) := by omega
    have n3 : ¬ (K : Int) + (M : Int) ≤ (i : Int) := by omega
    have hio : ((mayB K M O S = true ∧ 1 ≤ z ∧ z ≤ 16 ∧ i < K + M ∧ p.size = z + 9 ∧ addTo p p.size = 0) ↔ (p.size = z + 9 ∧ addTo p p.size = 0)) := ⟨fun h => h.2.2.2.2, fun h => ⟨hm, hz1, hz2, hi, h⟩⟩
    have Hio := hide hio
    rw [hm]
    clear hio hm
    by_cases hps : p.size = z + 9
    · have hpb : ((p.size : Int) != 8 + (z : Int) + 1) = false := by simp; omega
      have htot : ∀ W, Calls Try.prog 95 #[.string p] W fun e w' => e = .returned (.int .u8 ((addTo p p.size).toNat : Int)) ∧ w' = W := fun W => ptotal_any p W (by omega)
      obtain ⟨y, hy⟩ : ∃ y, y = addTo p p.size := ⟨_, rfl⟩
      rw [← hy] at htot
      have HY := hide hy
      have Hps := hide hps
      clear hy
      by_cases hy0 : y = 0
      · have hyb : ((y.toNat : Int) != 0) = false := by rw [hy0]; rfl
        have Hy0 := hide hy0
        clear hy0
        go_upto_region 9 with (first | (refine (htot _).mono ?_; rintro e W3 ⟨rfl, rfl⟩))
        have i8 : (8 : Int) + (z : Int) ≤ (p.size : Int) := by omega
        clear hbz
        have ht : W3.drew.there w.heap.size 0 7 := pk_there Hres.out
        have hst := pk_store w.heap.size K M O S z i (p.extract 8 (8 + z)) W3.drew ht
        have hbu := pk_build K M O S z i (p.extract 8 (8 + z)) W3.drew
        have hr := World.rangeAt_setCells_same W3.drew w.heap.size 0 (pkL K M O S z i (p.extract 8 (8 + z))) ht
        have hend : Below w.heap.size w (W3.drew.setCells w.heap.size 0 (pkL K M O S z i (p.extract 8 (8 + z)))) := pk_below hbw2.drew (Nat.le_refl _) _ _
        have hcs : (pkL K M O S z i (p.extract 8 (8 + z))).toArray = pkC K M O S z i (p.extract 8 (8 + z)) := rfl
        have hlen : (pkL K M O S z i (p.extract 8 (8 + z))).length = 7 := rfl
        generalize pkL K M O S z i (p.extract 8 (8 + z)) = cs at *
        have Hcs := hide hcs
        clear hcs ht hbw2 hres2 hsp2
        go_region
        go_wp2_with fail
        refine bodyPost_ret (v := .tuple #[.agg cs.toArray, .bool true]) ?_ rfl ⟨⟨fun _ => by rw [Hcs.out], fun h => absurd (Hio.out.2 ⟨Hps.out, by rw [← HY.out]; exact Hy0.out⟩) h⟩, hend⟩
        rw [results_cell_tmp Try.results90]
        have hl := run_loadVar_mid (P := Try.prog) _ w.heap.size 0 107 cs _ hr Try.underlying107 rfl (by rw [hlen]; exact Try.sizePk)
        simp [asAddr, hl]
      · have hyb : ((y.toNat : Int) != 0) = true := by
          simp only [bne_iff_ne, ne_eq]
          intro e
          exact hy0 (UInt8.toNat_inj.1 (by show y.toNat = 0; omega))
        have hno : ¬ (mayB K M O S = true ∧ 1 ≤ z ∧ z ≤ 16 ∧ i < K + M ∧ p.size = z + 9 ∧ addTo p p.size = 0) := fun h => hy0 (by rw [HY.out]; exact h.2.2.2.2.2)
        have Hno := hide hno
        clear hno hy0
        go_wp2_with fail
        refine (htot _).mono ?_
        rintro e W3 ⟨rfl, rfl⟩
        go_wp2_with (first | (refine wpList_store_row rfl 107 (.tmp 2) (.tmp 72) rfl w.heap.size pk0 rfl rfl 107 pk0 Hres.out Try.sizePk rfl hone ?_))
        exact bodyPost_ret (results_pread _ _ w.heap.size 0 0 0 0 0 0 _ _ rfl Hf1.out) rfl ⟨⟨fun h => absurd h Hno.out, fun _ => rfl⟩, Hf2.out⟩
    · have hpb : ((p.size : Int) != 8 + (z : Int) + 1) = true := by simp; omega
      have hno : ¬ (mayB K M O S = true ∧ 1 ≤ z ∧ z ≤ 16 ∧ i < K + M ∧ p.size = z + 9 ∧ addTo p p.size = 0) := fun h => hps h.2.2.2.2.1
      have Hno := hide hno
      clear hno hps
      go_wp2_with (first | (refine wpList_store_row rfl 107 (.tmp 2) (.tmp 72) rfl w.heap.size pk0 rfl rfl 107 pk0 Hres.out Try.sizePk rfl hone ?_))
      exact bodyPost_ret (results_pread _ _ w.heap.size 0 0 0 0 0 0 _ _ rfl Hf1.out) rfl ⟨⟨fun h => absurd h Hno.out, fun _ => rfl⟩, Hf2.out⟩
  · have hno : ¬ (mayB K M O S = true ∧ 1 ≤ z ∧ z ≤ 16 ∧ i < K + M ∧ p.size = z + 9 ∧ addTo p p.size = 0) := fun h => hok ⟨h.1, h.2.1, h.2.2.1, h.2.2.2.1⟩
    have Hno := hide hno
    have hor : mayB K M O S = false ∨ (mayB K M O S = true ∧ (z : Int) < 1) ∨ (mayB K M O S = true ∧ ¬ (z : Int) < 1 ∧ (16 : Int) < (z : Int)) ∨ (mayB K M O S = true ∧ ¬ (z : Int) < 1 ∧ ¬ (16 : Int) < (z : Int) ∧ (K : Int) + (M : Int) ≤ (i : Int)) := by
      cases hm : mayB K M O S with
      | false => exact Or.inl rfl
      | true =>
        have : ¬ (1 ≤ z ∧ z ≤ 16 ∧ i < K + M) := fun h => hok ⟨hm, h⟩
        refine Or.inr ?_
        simp only [true_and]
        omega
    clear hno hok
    rcases hor with hm | ⟨hm, h1⟩ | ⟨hm, h1, h2⟩ | ⟨hm, h1, h2, h3⟩
    all_goals
      rw [hm]
      go_wp2_with (first | (refine wpList_store_row rfl 107 (.tmp 2) (.tmp 60) rfl w.heap.size pk0 rfl rfl 107 pk0 Hres.out Try.sizePk rfl hone ?_))
      exact bodyPost_ret (results_pread _ _ w.heap.size 0 0 0 0 0 0 _ _ rfl Hf1.out) rfl ⟨⟨fun h => absurd h Hno.out, fun _ => rfl⟩, Hf2.out⟩

end Go.Proofs.Ytnjaofkieajnlaa

/- The program's catcher where it lies within a block: its cells; Wants and the box within it. -/
namespace Go.Proofs.Ytnjaofkieajnlaa
open Go.RowKit

/-- The cells of the program's catcher. -/
def catCell (tk : Bool) (K M O S z n : Nat) (of : Nat → Nat) (kn : Kn) (i : Nat) : Value :=
  if i = 0 then .bool tk else if i = 1 then .int .i64 (K : Int) else if i = 2 then .int .i64 (M : Int) else if i = 3 then .int .i64 (O : Int) else if i = 4 then .int .i64 (S : Int) else if i = 5 then .int .i64 (z : Int) else boxCell K n z of kn (i - 6)

/-- The cells of a block that has a catcher from place o on. -/
def inCat (o : Nat) (hh : Nat → Value) (tk : Bool) (K M O S z n : Nat) (of : Nat → Nat) (kn : Kn) (i : Nat) : Value := if i < o then hh i else if i < o + 89 then catCell tk K M O S z n of kn (i - o) else hh i

/-- Block p, of Ln cells, has a catcher from place o on; its other cells are hh's. -/
def CatOff (w : World) (p o Ln : Nat) (tt : TypeId) (hh : Nat → Value) (tk : Bool) (K M O S z n : Nat) (of : Nat → Nat) (kn : Kn) : Prop := o + 89 ≤ Ln ∧ w.rowIs p tt Ln (inCat o hh tk K M O S z n of kn)

theorem inCat_in (o : Nat) (hh : Nat → Value) (tk : Bool) (K M O S z n : Nat) (of : Nat → Nat) (kn : Kn) (i : Nat) (hi : i < 89) : inCat o hh tk K M O S z n of kn (o + i) = catCell tk K M O S z n of kn i := by
  unfold inCat
  rw [if_neg (by omega), if_pos (by omega), Nat.add_sub_cancel_left]

theorem inCat_box (o : Nat) (hh : Nat → Value) (tk : Bool) (K M O S z n : Nat) (of : Nat → Nat) (kn : Kn) (i : Nat) : inBox (o + 6) (inCat o hh tk K M O S z n of kn0) K n z of kn i = inCat o hh tk K M O S z n of kn i := by
  unfold inBox
  by_cases h1 : i < o + 6
  · rw [if_pos h1]
    unfold inCat
    by_cases h2 : i < o
    · rw [if_pos h2, if_pos h2]
    · rw [if_neg h2, if_neg h2, if_pos (by omega), if_pos (by omega)]
      unfold catCell
      have : i - o = 0 ∨ i - o = 1 ∨ i - o = 2 ∨ i - o = 3 ∨ i - o = 4 ∨ i - o = 5 := by omega
      rcases this with h | h | h | h | h | h <;> rw [h] <;> rfl
  · rw [if_neg h1]
    by_cases h2 : i < o + 6 + 83
    · rw [if_pos h2]
      unfold inCat catCell
      rw [if_neg (by omega), if_pos (by omega), if_neg (by omega), if_neg (by omega), if_neg (by omega), if_neg (by omega), if_neg (by omega), if_neg (by omega), show i - o - 6 = i - (o + 6) by omega]
    · rw [if_neg h2]
      unfold inCat
      rw [if_neg (by omega), if_neg (by omega), if_neg (by omega), if_neg (by omega)]

namespace CatOff
variable {w w' : World} {p o Ln : Nat} {tt : TypeId} {hh : Nat → Value} {tk : Bool} {K M O S z n : Nat} {of : Nat → Nat} {kn : Kn}

theorem lt (h : CatOff w p o Ln tt hh tk K M O S z n of kn) : p < w.heap.size := World.rowIs.lt h.2

theorem block (h : CatOff w p o Ln tt hh tk K M O S z n of kn) (hb : w'.heap[p]? = w.heap[p]?) : CatOff w' p o Ln tt hh tk K M O S z n of kn := ⟨h.1, World.rowIs.of_block h.2 hb⟩

theorem on (h : CatOff w p o Ln tt hh tk K M O S z n of kn) {m : Nat} (hm : w.heap.size ≤ m) (hb : Below m w w') : CatOff w' p o Ln tt hh tk K M O S z n of kn := h.block (hb.block p (Nat.lt_of_lt_of_le h.lt hm))

theorem box (h : CatOff w p o Ln tt hh tk K M O S z n of kn) : BoxOff w p (o + 6) Ln tt (inCat o hh tk K M O S z n of kn0) K n z of kn :=
  ⟨by have := h.1; omega, World.rowIs.congr h.2 (fun i _ => (inCat_box o hh tk K M O S z n of kn i).symm)⟩

theorem of_box (h : BoxOff w p (o + 6) Ln tt (inCat o hh tk K M O S z n of kn0) K n z of kn) : CatOff w p o Ln tt hh tk K M O S z n of kn :=
  ⟨by have := h.1; omega, World.rowIs.congr h.2 (fun i _ => inCat_box o hh tk K M O S z n of kn i)⟩

theorem cell (h : CatOff w p o Ln tt hh tk K M O S z n of kn) {i : Nat} (hi : i < 89) : w.cell? ⟨p, o + i, none⟩ = some (catCell tk K M O S z n of kn i) := by
  have := World.rowIs.cell h.2 (i := o + i) (by have := h.1; omega)
  rw [inCat_in _ _ _ _ _ _ _ _ _ _ _ _ hi] at this
  exact this

theorem head (h : CatOff w p o Ln tt hh tk K M O S z n of kn) : w.cell? ⟨p, o, none⟩ = some (.bool tk) ∧ w.cell? ⟨p, o + 1, none⟩ = some (.int .i64 (K : Int)) ∧ w.cell? ⟨p, o + 2, none⟩ = some (.int .i64 (M : Int)) ∧ w.cell? ⟨p, o + 3, none⟩ = some (.int .i64 (O : Int)) ∧ w.cell? ⟨p, o + 4, none⟩ = some (.int .i64 (S : Int)) ∧ w.cell? ⟨p, o + 5, none⟩ = some (.int .i64 (z : Int)) :=
  ⟨h.cell (i := 0) (by omega), h.cell (i := 1) (by omega), h.cell (i := 2) (by omega), h.cell (i := 3) (by omega), h.cell (i := 4) (by omega), h.cell (i := 5) (by omega)⟩

theorem frozen (h : CatOff w p o Ln tt hh tk K M O S z n of kn) (i : Nat) : w.frozen? ⟨p, i, none⟩ = false := World.rowIs.frozen h.2 i

theorem there (h : CatOff w p o Ln tt hh tk K M O S z n of kn) : w.there p o 89 := fun j hj => ⟨by rw [h.cell hj]; rfl, h.frozen _⟩

end CatOff

/-- A catcher that has heard nothing. -/
abbrev CatNone (w : World) (p o Ln : Nat) (tt : TypeId) (hh : Nat → Value) : Prop := CatOff w p o Ln tt hh false 0 0 0 0 0 0 (fun _ => 0) kn0

/-- .. and one that has. -/
abbrev CatHas (w : World) (p o Ln : Nat) (tt : TypeId) (hh : Nat → Value) (K M O S z : Nat) (kn : Kn) : Prop := CatOff w p o Ln tt hh true K M O S z (K + M) (ofs K M O S) kn

set_option maxRecDepth 100000 in
set_option maxHeartbeats 4000000 in
theorem pwants_none (p o Ln : Nat) (tt : TypeId) (hh : Nat → Value) (w : World) (hc : CatNone w p o Ln tt hh) :
    Calls Try.prog 73 #[.pointer (some ⟨p, o, none⟩)] w fun e w' => e = .returned (.int .i64 (-1)) ∧ w' = w := by
  obtain ⟨c0, _⟩ := hc.head
  clear hc
  go_enter Try.func73, Try.ntmps73
  go_wp2_with fail
  go_ret
  exact ⟨rfl, rfl⟩

set_option maxRecDepth 100000 in
set_option maxHeartbeats 4000000 in
theorem pwants_has (p o Ln : Nat) (tt : TypeId) (hh : Nat → Value) (K M O S z : Nat) (kn : Kn) (w : World) (hK : K ≤ 20) (hc : CatHas w p o Ln tt hh K M O S z kn) :
    Calls Try.prog 73 #[.pointer (some ⟨p, o, none⟩)] w fun e w' => e = .returned (.int .i64 (openK kn K : Int)) ∧ w' = w := by
  obtain ⟨c0, _⟩ := hc.head
  have hn := qneed_any p (o + 6) Ln tt _ K (K + M) z (ofs K M O S) kn w hK hc.box
  clear hc
  generalize openK kn K = nd at *
  go_enter Try.func73, Try.ntmps73
  go_wp2_with fail
  refine hn.mono ?_
  rintro e w1 ⟨rfl, h1⟩
  obtain rfl := h1.symm
  go_wp2_with fail
  go_ret
  exact ⟨rfl, rfl⟩

end Go.Proofs.Ytnjaofkieajnlaa

/- The document's own data of an object. -/
namespace Go.Proofs.Ytnjaofkieajnlaa
open Go.RowKit

/-- The two bytes of a length. -/
def lenB (n : Nat) : ByteArray := ⟨#[UInt8.ofNat (n % 256), UInt8.ofNat (n / 256)]⟩

theorem numsB_len (n : Nat) (h : n ≤ 65535) : numsB (lenB n) = [((n % 256 : Nat) : Int), ((n / 256 : Nat) : Int)] := by
  show [((UInt8.ofNat (n % 256)).toNat : Int), ((UInt8.ofNat (n / 256)).toNat : Int)] = _
  rw [ofNat_u8 (n % 256) (by omega), ofNat_u8 (n / 256) (by omega)]

/-- The text of an object's data, for N bytes. -/
def objT (N : Nat) (o : ByteArray) : ByteArray := lenB o.size ++ o ++ zeroB (N - (2 + o.size))

/-- The pieces of a text. -/
def cutTo (t : ByteArray) (z : Nat) : Nat → List ByteArray
  | 0 => []
  | j + 1 => cutTo t z j ++ [t.extract (j * z) (j * z + z)]

theorem cutTo_length (t : ByteArray) (z j : Nat) : (cutTo t z j).length = j := by
  induction j with
  | zero => rfl
  | succ j ih => show (cutTo t z j ++ [_]).length = _; rw [List.length_append, ih]; rfl

/-- How long a text is. -/
def lenV (v : Value) : Nat := match v with
  | .string b => b.size
  | _ => 0

theorem pad_succ (t : ByteArray) (k : Nat) : t ++ zeroB k ++ ⟨#[0]⟩ = t ++ zeroB (k + 1) := by
  rw [ByteArray.append_assoc, zeroB_succ]

set_option maxRecDepth 100000 in
set_option maxHeartbeats 8000000 in
theorem data_any (M O S : Int) (K z N : Nat) (o : ByteArray) (w : World) (hz : 1 ≤ z ∧ z ≤ 16) (hK : K ≤ 20) (hN : N = K * z) (ho : o.size + 2 ≤ N) :
    Calls Try.prog 62 #[specV K M O S, .int .i64 (z : Int), .string o] w fun e w' => ∃ v, e = .returned v ∧ w'.ownsRow w.heap.size 9 1 v K (textV (cutTo (objT N o) z K)) ∧ Below w.heap.size w w' := by
  have hN2 : N ≤ 320 := by rw [hN]; exact Nat.le_trans (Nat.mul_le_mul hK hz.2) (by decide)
  have hlow := low_byte o.size (by omega)
  have hmul : (K : Int) * (z : Int) = (N : Int) := by rw [hN]; simp
  have hm1 : 0 ≤ (K : Int) * (z : Int) := by rw [hmul]; omega
  have hm2 : (K : Int) * (z : Int) ≤ 320 := by rw [hmul]; omega
  have hcv := conv_block (lenB o.size) (w.heap.size + 1) #[.int .u8 (bits BinOp.and IntKind.i64 (o.size : Int) 255 % 256), .int .u8 ((o.size : Int) / 256)] ((w.alloc (.cells #[.int .i64 (K : Int), .int .i64 M, .int .i64 O, .int .i64 S] 23)).alloc (.cells #[.int .u8 (bits BinOp.and IntKind.i64 (o.size : Int) 255 % 256), .int .u8 ((o.size : Int) / 256)] 5)) (heap_alloc2p w _ _) (by rw [numsB_len o.size (by omega), hlow]; rfl)
  have hcv' : (convert 53 9 (.slice (some ⟨w.heap.size + 1, 0, none⟩) 2 2)).run Try.prog ((w.alloc (.cells #[.int .i64 (K : Int), .int .i64 M, .int .i64 O, .int .i64 S] 23)).alloc (.cells #[.int .u8 (bits BinOp.and IntKind.i64 (o.size : Int) 255 % 256), .int .u8 ((o.size : Int) / 256)] 5)) = .ok (.string (lenB o.size)) _ := hcv
  have hls : (lenB o.size).size = 2 := rfl
  obtain ⟨j0, gi, gz0, gz1, gz2⟩ := info_parts Try.infoText
  clear hcv hlow
  have hob : objT N o = lenB o.size ++ o ++ zeroB (N - (2 + o.size)) := rfl
  have hos : (objT N o).size = N := by rw [hob, ByteArray.size_append, ByteArray.size_append, zeroB_size]; show 2 + o.size + (N - (2 + o.size)) = N; omega
  generalize lenB o.size = lb at *
  generalize objT N o = T at *
  have HO := hide hob
  have hsp : ((w.alloc (.cells #[.int .i64 (K : Int), .int .i64 M, .int .i64 O, .int .i64 S] 23)).alloc (.cells #[.int .u8 (bits BinOp.and IntKind.i64 (o.size : Int) 255 % 256), .int .u8 ((o.size : Int) / 256)] 5)).cell? ⟨w.heap.size, 0, none⟩ = some (.int .i64 (K : Int)) := by
    rw [World.cell?_alloc_lt _ _ _ (by simp), cell_of_row _ _ _ _ _ _ (heap_alloc_new w _)]; rfl
  have hbA : Below w.heap.size w ((w.alloc (.cells #[.int .i64 (K : Int), .int .i64 M, .int .i64 O, .int .i64 S] 23)).alloc (.cells #[.int .u8 (bits BinOp.and IntKind.i64 (o.size : Int) 255 % 256), .int .u8 ((o.size : Int) / 256)] 5)) := ((Below.refl _ _).alloc (Nat.le_refl _) _).alloc (by simp) _
  clear hob
  go_enter Try.func62, Try.ntmps62
  go_wp2_with fail
  clear hcv'
  generalize (w.alloc (.cells #[.int .i64 (K : Int), .int .i64 M, .int .i64 O, .int .i64 S] 23)).alloc (.cells #[.int .u8 (bits BinOp.and IntKind.i64 (o.size : Int) 255 % 256), .int .u8 ((o.size : Int) / 256)] 5) = W at *
  have hts : (lb ++ o).size = 2 + o.size := by rw [ByteArray.size_append, hls]
  generalize lb ++ o = t0 at *
  have HM := hide hmul
  have HN := hide hN
  clear hmul hN
  go_loop [8] (fun tv => ∃ k : Nat, 2 + o.size + k ≤ N ∧ tv = .string (t0 ++ zeroB k)) (fun tv => N - lenV tv)
  case atStart => exact ⟨0, by omega, by rw [show zeroB 0 = ByteArray.empty from rfl, ByteArray.append_empty]⟩
  case round =>
    obtain ⟨k, hk1, rfl⟩ := hrel
    have hps := pad_succ t0 k
    have hsk : (t0 ++ zeroB k).size = 2 + o.size + k := by rw [ByteArray.size_append, hts, zeroB_size]
    have hsk1 : (t0 ++ zeroB (k + 1)).size = 2 + o.size + k + 1 := by rw [ByteArray.size_append, hts, zeroB_size]; omega
    have Hps := hide hps
    clear hps
    by_cases hlt : 2 + o.size + k < N
    · have hc1 : ((2 : Int) + (o.size : Int) + (k : Int)) < (K : Int) * (z : Int) := by rw [HM.out]; omega
      generalize t0 ++ zeroB k = tk at *
      go_wp2_with fail
      go_round
      case rel => exact ⟨k + 1, by omega, by rw [Hps.out]⟩
      case measure =>
        show N - (tk ++ ⟨#[0]⟩).size < N - tk.size
        rw [ByteArray.size_append, hsk]
        show N - (2 + o.size + k + 1) < N - (2 + o.size + k)
        omega
    · have hc1 : ¬ ((2 : Int) + (o.size : Int) + (k : Int)) < (K : Int) * (z : Int) := by rw [HM.out]; omega
      have hkN : k = N - (2 + o.size) := by omega
      have hT : t0 ++ zeroB k = T := by rw [hkN]; exact HO.out.symm
      rw [hT]
      rw [hT] at hsk
      clear HO hT hsk1 Hps hkN
      go_wp2_with fail
      go_loopw [8, 9] (fun tv ov wr => ∃ (j m : Nat), j ≤ K ∧ m = j * z ∧ tv = .string (T.extract m N) ∧ wr.ownsRow w.heap.size 9 1 ov j (textV (cutTo T z j)) ∧ Below w.heap.size w wr) (fun tv _ _ => lenV tv)
      case atStart => exact ⟨0, 0, Nat.zero_le _, by simp, by rw [← hos, ByteArray.extract_zero_size], World.ownsRow_nil _ _ _ _, hbA⟩
      case round =>
        obtain ⟨j, m, hj, hm, rfl, hown, hbw⟩ := hrel
        have hmN : m ≤ N := by rw [hm, HN.out]; exact Nat.mul_le_mul_right z hj
        have hms : (T.extract m N).size = N - m := by rw [ByteArray.size_extract]; omega
        by_cases hjK : j < K
        · have hmz : m + z ≤ N := by rw [hm, HN.out, ← Nat.succ_mul]; exact Nat.mul_le_mul_right z hjK
          have hm2 : m + z = (j + 1) * z := by rw [hm, Nat.succ_mul]
          have e1 : (T.extract m N).extract 0 z = T.extract m (m + z) := by rw [ByteArray.extract_extract]; congr 1; omega
          have e2 : (T.extract m N).extract z (N - m) = T.extract (m + z) N := by rw [ByteArray.extract_extract]; congr 1; omega
          have hcut : cutTo T z (j + 1) = cutTo T z j ++ [T.extract m (m + z)] := by rw [hm]; rfl
          have hes : (T.extract (m + z) N).size = N - (m + z) := by rw [ByteArray.size_extract]; omega
          have H1 := hide e1
          have H2 := hide e2
          have H3 := hide hcut
          have H4 := hide hm2
          clear e1 e2 hcut hm2 hm
          generalize T.extract m N = tm at *
          have hwsz := hbw.size
          go_wp2_with (at_builtin; refine wpList_append_lies _ rfl (.tmp 34) (.tmp 38) 28 rfl w.heap.size 9 j0 (.string ByteArray.empty) 1 16 Try.underlying28 gi gz0 gz1 gz2 rfl (by decide) _ _ _ rfl (hown.alloc _) ⟨wr.heap.size, 0, none⟩ 1 1 [.string (tm.extract 0 z)] rfl rfl (one_news _ _ _) (one_oneCell rfl) (by decide) (by unfold maxLen; omega) (by omega) (by simp; omega) (wr.heap.size + 1) (by simp) ?_)
          intro g cap w2 hown2 hgr2 hat2 hlt2
          have hb2 : Below w.heap.size w w2 := hbw.grown (grownBy_of_alloc hgr2) hbw.size (fun k e => (hown.lt k e).1)
          rw [H1.out] at hown2
          have hown3 : w2.ownsRow w.heap.size 9 1 (.slice (some ⟨g, 0, none⟩) (j + 1) cap) (j + 1) (textV (cutTo T z (j + 1))) := by rw [H3.out, textV_append]; exact hown2
          clear hown2 hgr2 hat2 hown
          go_wp2_with fail
          go_roundw
          case rel => exact ⟨j + 1, m + z, by omega, H4.out, by rw [← H2.out], hown3, hb2⟩
          case measure =>
            show (tm.extract z (N - m)).size < tm.size
            rw [ByteArray.size_extract, hms]
            omega
        · have hjj : j = K := by omega
          have hmm : m = N := by rw [hm, hjj, HN.out]
          subst hjj
          rw [hmm] at hms ⊢
          have hms0 : (T.extract N N).size = 0 := by omega
          generalize T.extract N N = tm at *
          clear hm hmm
          go_wp2_with fail
          go_ret
          exact ⟨_, rfl, hown, hbw⟩

end Go.Proofs.Ytnjaofkieajnlaa

/- The document's own Send. -/
namespace Go.Proofs.Ytnjaofkieajnlaa
open Go.RowKit

/-- The packets of a word's first pieces. -/
def packTo (K M O S z : Nat) (P : List ByteArray) : Nat → List ByteArray
  | 0 => []
  | i + 1 => packTo K M O S z P i ++ [packB K M O S z i (P.getD i ByteArray.empty)]

theorem packTo_length (K M O S z : Nat) (P : List ByteArray) (i : Nat) : (packTo K M O S z P i).length = i := by
  induction i with
  | zero => rfl
  | succ i ih => show (packTo K M O S z P i ++ [_]).length = _; rw [List.length_append, ih]; rfl

theorem cutTo_size (t : ByteArray) (z j : Nat) (h : j * z ≤ t.size) : ∀ x ∈ cutTo t z j, x.size = z := by
  induction j with
  | zero => intro x hx; simp [cutTo] at hx
  | succ j ih =>
    intro x hx
    rw [Nat.succ_mul] at h
    rcases List.mem_append.1 (show x ∈ cutTo t z j ++ [t.extract (j * z) (j * z + z)] from hx) with hx | hx
    · exact ih (by omega) x hx
    · simp at hx; subst hx
      rw [ByteArray.size_extract]; omega

theorem objT_size (N : Nat) (o : ByteArray) (h : o.size + 2 ≤ N) : (objT N o).size = N := by
  unfold objT
  rw [ByteArray.size_append, ByteArray.size_append, zeroB_size]
  show 2 + o.size + (N - (2 + o.size)) = N
  omega

theorem shape_made {l : List ByteArray} {n z : Nat} (hl : l.length = n) (hn : 0 < n) (hs : ∀ x ∈ l, x.size = z) (hz : 1 ≤ z ∧ z ≤ 16) : Shaped l n ∧ (l.getD 0 ByteArray.empty).size = z := by
  have hget : ∀ k, k < l.length → (l.getD k ByteArray.empty).size = z := fun k hk => hs _ (by rw [List.getD_eq_getElem?_getD, List.getElem?_eq_getElem hk]; exact List.getElem_mem hk)
  exact ⟨⟨hl, fun k hk => by rw [hget k hk, hget 0 (by omega)]; omega⟩, hget 0 (by omega)⟩

/-- What is owned from a place on is owned from a lower one on. -/
theorem owns_low {w : World} {base base' : Nat} {e : TypeId} {size : Nat} {v : Value} {n : Nat} {xs : List Value} (h : w.ownsRow base e size v n xs) (hb : base' ≤ base) : w.ownsRow base' e size v n xs := by
  refine ⟨h.1, ?_⟩
  rcases h.2 with h2 | ⟨g, cap, cur, h1, h2, h3⟩
  · exact Or.inl h2
  · exact Or.inr ⟨g, cap, cur, h1, Nat.le_trans hb h2, h3⟩

/-- An object's word. -/
def objWord (K M O S z : Nat) (o : ByteArray) : List ByteArray := knownTo (cutTo (objT (K * z) o) z K) (rowOf K M O S) z M

set_option maxRecDepth 100000 in
set_option maxHeartbeats 8000000 in
theorem rsend_ok (K M O S z : Nat) (o : ByteArray) (w : World) (hK : 1 ≤ K ∧ K ≤ 20) (hM : 1 ≤ M ∧ M ≤ 20) (hO : 1 ≤ O ∧ O ≤ M) (hS : S ≤ 65535) (hz : 1 ≤ z ∧ z ≤ 16) (ho : o.size + 2 ≤ K * z) :
    Calls Try.prog 42 #[specV K M O S, .int .i64 (z : Int), .string o] w fun e w' => ∃ v, e = .returned (.tuple #[v, .int .i64 0]) ∧ w'.ownsRow w.heap.size 9 1 v (K + M) (textV (packTo K M O S z (objWord K M O S z o) (K + M))) ∧ Below w.heap.size w w' := by
  have hN2 : K * z ≤ 320 := Nat.le_trans (Nat.mul_le_mul hK.2 hz.2) (by decide)
  have hmul : (K : Int) * (z : Int) = ((K * z : Nat) : Int) := by simp
  have hm1 : 0 ≤ (K : Int) * (z : Int) := by rw [hmul]; omega
  have hm2 : (K : Int) * (z : Int) ≤ 320 := by rw [hmul]; omega
  have hc1 : ¬ (K : Int) * (z : Int) < (o.size : Int) + 2 := by rw [hmul]; omega
  have hma := fun W => may_below K M O S W
  have hmay : mayB K M O S = true := by simp [mayB]; omega
  rw [hmay] at hma
  have hds := cutTo_size (objT (K * z) o) z K (by rw [objT_size _ _ ho]; exact Nat.le_refl _)
  have hdl := cutTo_length (objT (K * z) o) z K
  obtain ⟨hsh, h0s⟩ := shape_made hdl (by omega) hds hz
  have hda := fun W => data_any M O S K z (K * z) o W hz hK.2 rfl ho
  have hwo := fun v W h => rword_ok K M O S v (cutTo (objT (K * z) o) z K) W hK hM hO hS hsh h
  rw [h0s] at hwo
  have hPl : (objWord K M O S z o).length = K + M := by unfold objWord; rw [knownTo_length, hdl]
  have hPs : ∀ x ∈ objWord K M O S z o, x.size = z := knownTo_size hds M
  have hPe : knownTo (cutTo (objT (K * z) o) z K) (rowOf K M O S) z M = objWord K M O S z o := rfl
  rw [hPe] at hwo
  clear hPe h0s hsh hmul hds hmay
  generalize objWord K M O S z o = P at *
  generalize cutTo (objT (K * z) o) z K = D at *
  obtain ⟨j0, gi, gz0, gz1, gz2⟩ := info_parts Try.infoText
  have hsp : (w.alloc (specB K M O S)).heap[w.heap.size]? = some (specB K M O S) := heap_alloc_new w _
  have hbA : Below w.heap.size w (w.alloc (specB K M O S)) := (Below.refl _ _).alloc (Nat.le_refl _) _
  go_enter Try.func42, Try.ntmps42
  go_wp2_with fail
  refine (hma _).mono ?_
  rintro e w1 ⟨rfl, hb1⟩
  have hs1 := block_on hsp hb1
  have hbw1 := hbA.trans (hb1.mono hbA.size)
  clear hsp hbA hb1 hma
  obtain ⟨c0, c1, c2, c3⟩ := spec_cells hs1
  have z1 : ¬ (z : Int) < 1 := by omega
  have z2 : ¬ (16 : Int) < (z : Int) := by omega
  go_wp2_with fail
  go_region_held3 (fun w' => w'.cell? ⟨w.heap.size, 0, none⟩ = some (.int .i64 (K : Int)) ∧ w'.cell? ⟨w.heap.size, 1, none⟩ = some (.int .i64 (M : Int)) ∧ w'.cell? ⟨w.heap.size, 2, none⟩ = some (.int .i64 (O : Int)) ∧ w'.cell? ⟨w.heap.size, 3, none⟩ = some (.int .i64 (S : Int)))
    (first | (exact ⟨d0, d1, d2, d3⟩) | (exact ⟨e0, e1, e2, e3⟩) | go_keep)
    (first
      | (go_at_call 62; refine (hda _).mono ?_; rintro e w2 ⟨v2, rfl, hown2, hb2⟩; obtain ⟨d0, d1, d2, d3⟩ := spec_cells (block_on (w := w1.drew) hs1 hb2))
      | (go_at_call 36; refine (hwo _ _ (owns_texts hown2 hdl.symm)).mono ?_; rintro e w3 ⟨v3, rfl, hown3, hb3⟩; obtain ⟨g, cap, rfl, hg, hgl⟩ := hown3.form (by omega); obtain ⟨e0, e1, e2, e3⟩ := spec_cells (block_on (block_on (w := w1.drew) hs1 hb2) hb3)))
  have hs3 : w3.heap[w.heap.size]? = some (specB K M O S) := block_on (block_on (w := w1.drew) hs1 hb2) hb3
  have hb12 : Below w.heap.size w w2 := hbw1.drew.trans (Below.mono hb2 hbw1.size)
  have hbw3 : Below w.heap.size w w3 := hb12.trans (hb3.mono hb12.size)
  have htx := owns_texts hown3 hPl.symm
  clear d0 d1 d2 d3 e0 e1 e2 e3 hb2 hb3 hb12 hown2 c0 c1 c2 c3 hs1 hbw1 hda hwo hown3
  rename_i hheld
  clear hheld
  have hTc : ∀ k, k < K + M → w3.cell? ⟨g, k, none⟩ = some (.string (P.getD k ByteArray.empty)) := by
    obtain ⟨ao, cap', hv', _, hT⟩ := htx
    injection hv' with hv1 hv2 hv3
    intro k hk
    obtain ⟨q, o1, hq1, hq2, hq3⟩ := hT k (by omega)
    rw [hq1] at hv1
    injection hv1 with hv1
    injection hv1 with hb1 ho1
    subst hb1 ho1
    rw [Nat.zero_add] at hq3
    exact hq3
  have HT := hide hTc
  clear hTc htx
  have hw3 := hbw3.size
  go_wp2_with fail
  go_loopw [9, 41] (fun ov t wr => ∃ i : Nat, i ≤ K + M ∧ t = .int .i64 i ∧ wr.ownsRow w3.heap.size 9 1 ov i (textV (packTo K M O S z P i)) ∧ Below w3.heap.size w3 wr) (fun _ t _ => K + M - (intOf t).toNat)
  case atStart => exact ⟨0, Nat.zero_le _, rfl, World.ownsRow_nil _ _ _ _, Below.refl _ _⟩
  case round =>
    obtain ⟨i, hiM, rfl, hown, hbr⟩ := hrel
    have hwr := hbr.size
    by_cases hlt : i < K + M
    · have hcl : wr.cell? ⟨g, i, none⟩ = some (.string (P.getD i ByteArray.empty)) := by
        rw [← HT.out i hlt]; exact hbr.cell hgl
      have hpm : P.getD i ByteArray.empty ∈ P := by
        rw [List.getD_eq_getElem?_getD, List.getElem?_eq_getElem (by omega)]; exact List.getElem_mem _
      have hps := hPs _ hpm
      have hpk : packTo K M O S z P (i + 1) = packTo K M O S z P i ++ [packB K M O S z i (P.getD i ByteArray.empty)] := rfl
      have Hpk := hide hpk
      clear hpk hpm
      generalize P.getD i ByteArray.empty = p at *
      obtain ⟨c0, c1, c2, c3⟩ := spec_cells (block_on hs3 hbr)
      go_wp2_with fail
      refine (packet_any K M O S z i p wr hK.2 hM.2 (by omega) hS (by omega) (by omega) (by omega)).mono ?_
      rintro e w4 ⟨rfl, hb4⟩
      have hown4 := owns_below hown hb4
      have hbr4 := hbr.trans (hb4.mono hbr.size)
      have hw4 := hbr4.size
      clear hb4 hown hbr c0 c1 c2 c3 hcl
      generalize packB K M O S z i p = pk at *
      go_wp2_with (at_builtin; refine wpList_append_lies _ rfl (.tmp 51) (.tmp 53) 28 rfl w3.heap.size 9 j0 (.string ByteArray.empty) 1 16 Try.underlying28 gi gz0 gz1 gz2 rfl (by decide) _ _ _ rfl (hown4.alloc _) ⟨w4.heap.size, 0, none⟩ 1 1 [.string pk] rfl rfl (one_news _ _ _) (one_oneCell rfl) (by decide) (by unfold maxLen; omega) (by omega) (by simp; omega) (w4.heap.size + 1) (by simp) ?_)
      intro g5 cap5 w5 hown5 hgr5 hat5 hlt5
      have hb5 : Below w3.heap.size w3 w5 := hbr4.grown (grownBy_of_alloc hgr5) hbr4.size (fun k e => (hown4.lt k e).1)
      clear hown4 hbr4 hgr5 hat5
      go_wp2_with fail
      go_roundw
      case rel => exact ⟨i + 1, by omega, by go_num, by rw [Hpk.out, textV_append]; exact hown5, hb5⟩
      case measure => simp [intOf]; omega
    · have hii : i = K + M := by omega
      subst hii
      have hff := hbw3.trans (hbr.mono hw3)
      have hof := owns_low hown hw3
      have hcf : ¬ ((K + M : Nat) : Int) < (K : Int) + (M : Int) := by omega
      go_wp2_with fail
      go_ret2
      exact ⟨_, rfl, hof, hff⟩

end Go.Proofs.Ytnjaofkieajnlaa

/- The document's own Object: whose data these are. -/
namespace Go.Proofs.Ytnjaofkieajnlaa
open Go.RowKit

/-- The first texts of a list, joined. -/
def catTo (l : List ByteArray) : Nat → ByteArray
  | 0 => ByteArray.empty
  | i + 1 => catTo l i ++ l.getD i ByteArray.empty

theorem catTo_le (l : List ByteArray) (i d : Nat) : (catTo l i).size ≤ (catTo l (i + d)).size := by
  induction d with
  | zero => exact Nat.le_refl _
  | succ d ih =>
    show _ ≤ (catTo l (i + d) ++ l.getD (i + d) ByteArray.empty).size
    rw [ByteArray.size_append]
    omega

/-- The length that data tell. -/
def objLen (t : ByteArray) : Nat := (byteAt t 0).toNat + 256 * (byteAt t 1).toNat

/-- The object of data. -/
def objText (t : ByteArray) : ByteArray := if objLen t + 2 ≤ t.size then t.extract 2 (2 + objLen t) else ByteArray.empty

/-- Whether data are an object's. -/
def objOk (t : ByteArray) : Bool := if objLen t + 2 ≤ t.size then decide (t.extract (2 + objLen t) t.size = zeroB (t.size - (2 + objLen t))) else false

end Go.Proofs.Ytnjaofkieajnlaa
