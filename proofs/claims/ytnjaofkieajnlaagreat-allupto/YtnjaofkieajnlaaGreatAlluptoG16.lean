/- Texts of the proof, part 17. -/
import Derived.BigQuiet
import Derived.BigRegion
import Derived.Deep.MidRow
import Derived.Laws.ResultCell
import Derived.Test.YtnjaofkieajnlaaGreatAlluptoG14
import Derived.Test.YtnjaofkieajnlaaGreatAlluptoG15
import Derived.Test.YtnjaofkieajnlaaGreatAlluptoG6
import Derived.Test.YtnjaofkieajnlaaGreatAlluptoG7
import Derived.Test.YtnjaofkieajnlaaGreatAlluptoG9

/- The program's read of a packet. -/
namespace Go.Proofs.YtnjaofkieajnlaaGreat
open Go.RowKit

theorem mayb_below (K M O S : Int) (w : World) :
    Calls Tryz.prog 111 #[specV K M O S] w fun e w' => e = .returned (.bool (mayB K M O S)) ∧ Below w.heap.size w w' :=
  (maybe_any K M O S w).mono fun _ _ ⟨he, hw⟩ => ⟨he, by rw [hw]; exact (Below.refl _ _).alloc (Nat.le_refl _) _⟩

theorem Tryz.sizePk : (Tryz.prog.info? 142).map (·.size) = some 7 := by kernel_rfl

theorem pk_one (K M O S z i : Int) (p : ByteArray) : (pkC K M O S z i p).all (fun x => x.oneCell') = true := by
  simp [Value.oneCell']

theorem results_pread (tmps : Array Value) (w : World) (g : Nat) (K M O S z i : Int) (q : ByteArray) (fr : Nat × Nat) (hp : tmps.getD 2 undef = .pointer (some ⟨g, 0, none⟩)) (hg : w.heap[g]? = some (.cells (pkC K M O S z i q) 142 fr)) :
    (results Tryz.f91 tmps).run Tryz.prog w = .ok (.tuple #[.agg (pkC K M O S z i q), tmps.getD 3 undef]) w := by
  have hl := run_loadVar_row (P := Tryz.prog) w g 142 142 _ fr _ hg Tryz.underlying142 rfl Tryz.sizePk
  have hp' : tmps[2]?.getD undef = .pointer (some ⟨g, 0, none⟩) := by simpa using hp
  simp [results, Tryz.results91, hp', asAddr, hl]

/-- The packet that is none. -/
abbrev pk0 : Array Value := pkC 0 0 0 0 0 0 ⟨#[]⟩

set_option maxRecDepth 100000 in
set_option maxHeartbeats 8000000 in
theorem pread_short (p : ByteArray) (w : World) (hp : (p.size : Int) < 8 ∨ (8 ≤ p.size ∧ byteAt p 0 ≠ 82)) :
    Calls Tryz.prog 91 #[.string p] w fun e w' => e = .returned (.tuple #[.agg pk0, .bool false]) ∧ Below w.heap.size w w' := by
  have hbA : Below w.heap.size w (w.alloc (.cells pk0 142)) := (Below.refl _ _).alloc (Nat.le_refl _) _
  have hres : (w.alloc (.cells pk0 142)).heap[w.heap.size]? = some (.cells pk0 142 (0, 0)) := heap_alloc_new w _
  have hone := pk_one 0 0 0 0 0 0 ⟨#[]⟩
  have hf1 := setRow_heap _ _ _ pk0 _ _ hres
  have hf2 : Below w.heap.size w ((w.alloc (.cells pk0 142)).setRow w.heap.size pk0) := ((Chg.of_below hbA (fun _ => False)).setRow (Or.inl (Nat.le_refl _)) _).below (fun _ _ f => f)
  have Hf1 := hide hf1
  have Hf2 := hide hf2
  have Hres := hide hres
  clear hf1 hf2 hbA hres
  rcases hp with hp | ⟨hp, h0⟩
  · go_enter Tryz.func91, Tryz.ntmps91
    go_wp2_with (first | (refine wpList_store_row rfl 142 (.tmp 2) (.tmp 15) rfl w.heap.size pk0 rfl rfl 142 pk0 Hres.out Tryz.sizePk rfl hone ?_))
    exact bodyPost_ret (results_pread _ _ w.heap.size 0 0 0 0 0 0 _ _ rfl Hf1.out) rfl ⟨rfl, Hf2.out⟩
  · have hl1 : ¬ (p.size : Int) < 8 := by omega
    have g0 := byteAt_get p 0 (by omega)
    have i0 : (0 : Int) < (p.size : Int) := by omega
    have b0 := (byteAt p 0).toNat_lt
    have h0b : (((byteAt p 0).toNat : Int) != 82) = true := by
      simp only [bne_iff_ne, ne_eq]
      intro e
      exact h0 (UInt8.toNat_inj.1 (by show (byteAt p 0).toNat = 82; omega))
    clear h0
    go_enter Tryz.func91, Tryz.ntmps91
    go_wp2_with (first | (refine wpList_store_row rfl 142 (.tmp 2) (.tmp 15) rfl w.heap.size pk0 rfl rfl 142 pk0 Hres.out Tryz.sizePk rfl hone ?_))
    exact bodyPost_ret (results_pread _ _ w.heap.size 0 0 0 0 0 0 _ _ rfl Hf1.out) rfl ⟨rfl, Hf2.out⟩

abbrev pkL (K M O S z i : Int) (p : ByteArray) : List Value := [.int .i64 K, .int .i64 M, .int .i64 O, .int .i64 S, .int .i64 z, .int .i64 i, .string p]

/-- 'build' at a packet, kept whole. -/
noncomputable def builtPk (parts : Array (Nat × Value)) : Sem Value := Instr.build 142 parts

theorem build_maskPk (parts : Array (Nat × Value)) : Instr.build 142 parts = builtPk parts := rfl

theorem built_pk (K M O S z i : Int) (p : ByteArray) : Tryz.prog.built 142 [(0, specV K M O S), (1, .int .i64 z), (2, .int .i64 i), (3, .string p)] = some (pkL K M O S z i p).toArray := by kernel_rfl

theorem pk_build (K M O S z i : Int) (p : ByteArray) (w : World) : (builtPk #[(0, specV K M O S), (1, .int .i64 z), (2, .int .i64 i), (3, .string p)]).run Tryz.prog w = .ok (.agg (pkL K M O S z i p).toArray) w :=
  run_build (P := Tryz.prog) w 142 #[(0, specV K M O S), (1, .int .i64 z), (2, .int .i64 i), (3, .string p)] _ (built_pk K M O S z i p)

theorem pk_there {w : World} {b : Nat} {K M O S z i : Int} {p : ByteArray} {t : TypeId} (h : w.heap[b]? = some (.cells (pkC K M O S z i p) t (0, 0))) : w.there b 0 7 := fun j hj => by
  rw [Nat.zero_add, cell_of_row _ _ _ _ _ _ h, Array.getElem?_eq_getElem (show j < (pkC K M O S z i p).size from hj)]
  exact ⟨rfl, by simp [World.frozen?, h]⟩

theorem pk_store (b : Nat) (K M O S z i : Int) (p : ByteArray) (w : World) (ht : w.there b 0 7) : (storeCells ⟨b, 0, none⟩ (pkL K M O S z i p)).run Tryz.prog w = .ok () (w.setCells b 0 (pkL K M O S z i p)) :=
  run_storeCells_cells (P := Tryz.prog) b 0 (pkL K M O S z i p) 0 w (fun j hj => by simpa using (ht j hj).1) (fun j hj => by simpa using (ht j hj).2) (by intro v hv; simp at hv; rcases hv with rfl | rfl | rfl | rfl | rfl | rfl | rfl <;> rfl)

theorem pk_below {n : Nat} {w w' : World} (h : Below n w w') {b : Nat} (hb : n ≤ b) : ∀ (o : Nat) (vs : List Value), Below n w (w'.setCells b o vs) := fun o vs => by
  induction vs generalizing o w' with
  | nil => exact h
  | cons v vs ih => exact ih (h.setCell hb v) (o + 1)

theorem pk_build0 (w : World) : (builtPk #[]).run Tryz.prog w = .ok (.agg pk0) w :=
  run_build (P := Tryz.prog) w 142 #[] pk0 (by kernel_rfl)

attribute [local go_sem ↓] build_maskPk

set_option maxRecDepth 100000 in
set_option maxHeartbeats 8000000 in
theorem pread_walk (p : ByteArray) (K M O S z i : Nat) (w : World) (hp : 8 ≤ p.size) (h0 : byteAt p 0 = 82) (e1 : (byteAt p 1).toNat = K) (e2 : (byteAt p 2).toNat = M) (e3 : (byteAt p 3).toNat = O) (e4 : (byteAt p 4).toNat + 256 * (byteAt p 5).toNat = S) (e6 : (byteAt p 6).toNat = z) (e7 : (byteAt p 7).toNat = i) :
    Calls Tryz.prog 91 #[.string p] w fun e w' => (((mayB K M O S = true ∧ 1 ≤ z ∧ z ≤ 16 ∧ i < K + M ∧ p.size = z + 9 ∧ addTo p p.size = 0) → e = .returned (.tuple #[.agg (pkC K M O S z i (p.extract 8 (8 + z))), .bool true])) ∧ (¬ (mayB K M O S = true ∧ 1 ≤ z ∧ z ≤ 16 ∧ i < K + M ∧ p.size = z + 9 ∧ addTo p p.size = 0) → e = .returned (.tuple #[.agg pk0, .bool false]))) ∧ Below w.heap.size w w' := by
  have g0 := byteAt_get p 0 (by omega)
  have g1 := byteAt_get p 1 (by omega)
  have g2 := byteAt_get p 2 (by omega)
  have g3 := byteAt_get p 3 (by omega)
  have g4 := byteAt_get p 4 (by omega)
  have g5 := byteAt_get p 5 (by omega)
  have g6 := byteAt_get p 6 (by omega)
  have g7 := byteAt_get p 7 (by omega)
  have b1 := (byteAt p 1).toNat_lt
  have b2 := (byteAt p 2).toNat_lt
  have b3 := (byteAt p 3).toNat_lt
  have b4 := (byteAt p 4).toNat_lt
  have b5 := (byteAt p 5).toNat_lt
  have b6 := (byteAt p 6).toNat_lt
  have b7 := (byteAt p 7).toNat_lt
  have i0 : (0 : Int) < (p.size : Int) := by omega
  have i1 : (1 : Int) < (p.size : Int) := by omega
  have i2 : (2 : Int) < (p.size : Int) := by omega
  have i3 : (3 : Int) < (p.size : Int) := by omega
  have i4 : (4 : Int) < (p.size : Int) := by omega
  have i5 : (5 : Int) < (p.size : Int) := by omega
  have i6 : (6 : Int) < (p.size : Int) := by omega
  have i7 : (7 : Int) < (p.size : Int) := by omega
  have hl1 : ¬ (p.size : Int) < 8 := by omega
  have h0b : (((byteAt p 0).toNat : Int) != 82) = false := by rw [h0]; rfl
  have HE := hide (And.intro e1 (And.intro e2 (And.intro e3 (And.intro e4 (And.intro e6 e7)))))
  clear e1 e2 e3 e4 e6 e7 h0
  go_enter Tryz.func91, Tryz.ntmps91
  go_upto_region 3 with fail
  have hbA : Below w.heap.size w (w.alloc (.cells pk0 142)) := (Below.refl _ _).alloc (Nat.le_refl _) _
  have hres : (w.alloc (.cells pk0 142)).heap[w.heap.size]? = some (.cells pk0 142 (0, 0)) := heap_alloc_new w _
  generalize w.alloc (.cells pk0 142) = W at *
  go_cut [4] (fun s4 wc => s4 = .pointer (some ⟨W.heap.size, 0, none⟩) ∧ wc = (W.alloc (specB K M O S)).drew)
  case first =>
    go_region
    obtain ⟨e1, e2, e3, e4, e6, e7⟩ := HE.out
    have e4' : (((byteAt p 4).toNat : Int) + 256 * ((byteAt p 5).toNat : Int)) = (S : Int) := by omega
    rw [e4', e1, e2, e3]
    go_wp2_with fail
    go_meet
    case rel => exact ⟨rfl, rfl⟩
  case rest =>
  obtain ⟨rfl, rfl⟩ := hcut
  obtain ⟨e1, e2, e3, e4, e6, e7⟩ := HE.out
  rw [e1] at b1
  rw [e2] at b2
  rw [e3] at b3
  have hS : S ≤ 65535 := by omega
  clear HE e1 e2 e3 e4 b4 b5
  have hspW : (W.alloc (specB K M O S)).drew.heap[W.heap.size]? = some (specB K M O S) := heap_alloc_new W _
  have hbW : Below w.heap.size w (W.alloc (specB K M O S)).drew := (hbA.alloc hbA.size _).drew
  have hresW : (W.alloc (specB K M O S)).drew.heap[w.heap.size]? = some (.cells pk0 142 (0, 0)) := block_on hres ((Below.refl _ _).alloc (Nat.le_refl _) _).drew
  have hWn : w.heap.size ≠ W.heap.size := by have := (Array.getElem?_eq_some_iff.1 hres).1; omega
  generalize hWh : W.heap.size = h at *
  generalize hW1 : (W.alloc (specB K M O S)).drew = W1 at *
  clear hbA hres hW1 hWh
  go_wp2_with fail
  go_cut [5, 6] (fun s5 s6 wc => s5 = .int .i64 (z : Int) ∧ s6 = .int .i64 (i : Int) ∧ ∃ n, wc = W1.drewN n)
  case first =>
    go_quiet (fail)
    go_wp2_with fail
    go_meet
    case rel => exact ⟨by first | rfl | rw [e6], by first | rfl | rw [e7], _, rfl⟩
  case rest =>
  obtain ⟨rfl, rfl, nq, rfl⟩ := hcut
  rw [e6] at b6
  rw [e7] at b7
  clear e6 e7 g0 g1 g2 g3 g4 g5 g6 g7 h0b
  have hspV : (W1.drewN nq).heap[h]? = some (specB K M O S) := hspW
  have hresV : (W1.drewN nq).heap[w.heap.size]? = some (.cells pk0 142 (0, 0)) := hresW
  have hbV : Below w.heap.size w (W1.drewN nq) := hbW.trans ⟨rfl, rfl, rfl, Nat.le_refl _, fun _ _ => rfl⟩
  generalize W1.drewN nq = V at *
  clear hspW hresW hbW
  obtain ⟨c0, c1, c2, c3⟩ := spec_cells hspV
  go_wp2_with fail
  refine (mayb_below K M O S _).mono ?_
  rintro e W2 ⟨rfl, hb2⟩
  have hsp2 := block_on hspV hb2
  have hres2 := block_on hresV hb2
  have hbw2 := hbV.trans (hb2.mono hbV.size)
  clear c0 c1 c2 c3 hspV hresV hbV hb2
  obtain ⟨c0, c1, c2, c3⟩ := spec_cells hsp2
  have hf1 := setRow_heap _ _ _ pk0 _ _ hres2
  have hf2 : Below w.heap.size w (W2.setRow w.heap.size pk0) := ((Chg.of_below hbw2 (fun _ => False)).setRow (Or.inl (Nat.le_refl _)) _).below (fun _ _ f => f)
  have hone := pk_one 0 0 0 0 0 0 ⟨#[]⟩
  have Hf1 := hide hf1
  have Hf2 := hide hf2
  have Hres := hide hres2
  clear hf1 hf2
  have hbz := pk_build0
  by_cases hok : mayB K M O S = true ∧ 1 ≤ z ∧ z ≤ 16 ∧ i < K + M
  · obtain ⟨hm, hz1, hz2, hi⟩ := hok
    have n1 : ¬ (z : Int) < 1 := by omega
    have n2 : ¬ (16 : Int) < (z : Int) := by omega
    have n3 : ¬ (K : Int) + (M : Int) ≤ (i : Int) := by omega
    have hio : ((mayB K M O S = true ∧ 1 ≤ z ∧ z ≤ 16 ∧ i < K + M ∧ p.size = z + 9 ∧ addTo p p.size = 0) ↔ (p.size = z + 9 ∧ addTo p p.size = 0)) := ⟨fun h => h.2.2.2.2, fun h => ⟨hm, hz1, hz2, hi, h⟩⟩
    have Hio := hide hio
    rw [hm]
    clear hio hm
    by_cases hps : p.size = z + 9
    · have hpb : ((p.size : Int) != 8 + (z : Int) + 1) = false := by simp; omega
      have htot : ∀ W, Calls Tryz.prog 114 #[.string p] W fun e w' => e = .returned (.int .u8 ((addTo p p.size).toNat : Int)) ∧ w' = W := fun W => ptotal_any p W (by omega)
      obtain ⟨y, hy⟩ : ∃ y, y = addTo p p.size := ⟨_, rfl⟩
      rw [← hy] at htot
      have HY := hide hy
      have Hps := hide hps
      clear hy
      by_cases hy0 : y = 0
      · have hyb : ((y.toNat : Int) != 0) = false := by rw [hy0]; rfl
        have Hy0 := hide hy0
        clear hy0
        go_upto_region 9 with (first | (refine (htot _).mono ?_; rintro e W3 ⟨rfl, rfl⟩))
        have i8 : (8 : Int) + (z : Int) ≤ (p.size : Int) := by omega
        clear hbz
        have ht : W3.drew.there w.heap.size 0 7 := pk_there Hres.out
        have hst := pk_store w.heap.size K M O S z i (p.extract 8 (8 + z)) W3.drew ht
        have hbu := pk_build K M O S z i (p.extract 8 (8 + z)) W3.drew
        have hr := World.rangeAt_setCells_same W3.drew w.heap.size 0 (pkL K M O S z i (p.extract 8 (8 + z))) ht
        have hend : Below w.heap.size w (W3.drew.setCells w.heap.size 0 (pkL K M O S z i (p.extract 8 (8 + z)))) := pk_below hbw2.drew (Nat.le_refl _) _ _
        have hcs : (pkL K M O S z i (p.extract 8 (8 + z))).toArray = pkC K M O S z i (p.extract 8 (8 + z)) := rfl
        have hlen : (pkL K M O S z i (p.extract 8 (8 + z))).length = 7 := rfl
        generalize pkL K M O S z i (p.extract 8 (8 + z)) = cs at *
        have Hcs := hide hcs
        clear hcs ht hbw2 hres2 hsp2
        go_region
        go_wp2_with fail
        refine bodyPost_ret (v := .tuple #[.agg cs.toArray, .bool true]) ?_ rfl ⟨⟨fun _ => by rw [Hcs.out], fun h => absurd (Hio.out.2 ⟨Hps.out, by rw [← HY.out]; exact Hy0.out⟩) h⟩, hend⟩
        rw [results_cell_tmp Tryz.results91]
        have hl := run_loadVar_mid (P := Tryz.prog) _ w.heap.size 0 142 cs _ hr Tryz.underlying142 rfl (by rw [hlen]; exact Tryz.sizePk)
        simp [asAddr, hl]
      · have hyb : ((y.toNat : Int) != 0) = true := by
          simp only [bne_iff_ne, ne_eq]
          intro e
          exact hy0 (UInt8.toNat_inj.1 (by show y.toNat = 0; omega))
        have hno : ¬ (mayB K M O S = true ∧ 1 ≤ z ∧ z ≤ 16 ∧ i < K + M ∧ p.size = z + 9 ∧ addTo p p.size = 0) := fun h => hy0 (by rw [HY.out]; exact h.2.2.2.2.2)
        have Hno := hide hno
        clear hno hy0
        go_wp2_with fail
        refine (htot _).mono ?_
        rintro e W3 ⟨rfl, rfl⟩
        go_wp2_with (first | (refine wpList_store_row rfl 142 (.tmp 2) (.tmp 72) rfl w.heap.size pk0 rfl rfl 142 pk0 Hres.out Tryz.sizePk rfl hone ?_))
        exact bodyPost_ret (results_pread _ _ w.heap.size 0 0 0 0 0 0 _ _ rfl Hf1.out) rfl ⟨⟨fun h => absurd h Hno.out, fun _ => rfl⟩, Hf2.out⟩
    · have hpb : ((p.size : Int) != 8 + (z : Int) + 1) = true := by simp; omega
      have hno : ¬ (mayB K M O S = true ∧ 1 ≤ z ∧ z ≤ 16 ∧ i < K + M ∧ p.size = z + 9 ∧ addTo p p.size = 0) := fun h => hps h.2.2.2.2.1
      have Hno := hide hno
      clear hno hps
      go_wp2_with (first | (refine wpList_store_row rfl 142 (.tmp 2) (.tmp 72) rfl w.heap.size pk0 rfl rfl 142 pk0 Hres.out Tryz.sizePk rfl hone ?_))
      exact bodyPost_ret (results_pread _ _ w.heap.size 0 0 0 0 0 0 _ _ rfl Hf1.out) rfl ⟨⟨fun h => absurd h Hno.out, fun _ => rfl⟩, Hf2.out⟩
  · have hno : ¬ (mayB K M O S = true ∧ 1 ≤ z ∧ z ≤ 16 ∧ i < K + M ∧ p.size = z + 9 ∧ addTo p p.size = 0) := fun h => hok ⟨h.1, h.2.1, h.2.2.1, h.2.2.2.1⟩
    have Hno := hide hno
    have hor : mayB K M O S = false ∨ (mayB K M O S = true ∧ (z : Int) < 1) ∨ (mayB K M O S = true ∧ ¬ (z : Int) < 1 ∧ (16 : Int) < (z : Int)) ∨ (mayB K M O S = true ∧ ¬ (z : Int) < 1 ∧ ¬ (16 : Int) < (z : Int) ∧ (K : Int) + (M : Int) ≤ (i : Int)) := by
      cases hm : mayB K M O S with
      | false => exact Or.inl rfl
      | true =>
        have : ¬ (1 ≤ z ∧ z ≤ 16 ∧ i < K + M) := fun h => hok ⟨hm, h⟩
        refine Or.inr ?_
        simp only [true_and]
        omega
    clear hno hok
    rcases hor with hm | ⟨hm, h1⟩ | ⟨hm, h1, h2⟩ | ⟨hm, h1, h2, h3⟩
    all_goals
      rw [hm]
      go_wp2_with (first | (refine wpList_store_row rfl 142 (.tmp 2) (.tmp 60) rfl w.heap.size pk0 rfl rfl 142 pk0 Hres.out Tryz.sizePk rfl hone ?_))
      exact bodyPost_ret (results_pread _ _ w.heap.size 0 0 0 0 0 0 _ _ rfl Hf1.out) rfl ⟨⟨fun h => absurd h Hno.out, fun _ => rfl⟩, Hf2.out⟩

end Go.Proofs.YtnjaofkieajnlaaGreat

/- The program's catcher where it lies within a block: its cells; Wants and the box within it. -/
namespace Go.Proofs.YtnjaofkieajnlaaGreat
open Go.RowKit

/-- The cells of the program's catcher. -/
def catCell (tk : Bool) (K M O S z n : Nat) (of : Nat → Nat) (kn : Kn) (i : Nat) : Value :=
  if i = 0 then .bool tk else if i = 1 then .int .i64 (K : Int) else if i = 2 then .int .i64 (M : Int) else if i = 3 then .int .i64 (O : Int) else if i = 4 then .int .i64 (S : Int) else if i = 5 then .int .i64 (z : Int) else boxCell K n z of kn (i - 6)

/-- The cells of a block that has a catcher from place o on. -/
def inCat (o : Nat) (hh : Nat → Value) (tk : Bool) (K M O S z n : Nat) (of : Nat → Nat) (kn : Kn) (i : Nat) : Value := if i < o then hh i else if i < o + 89 then catCell tk K M O S z n of kn (i - o) else hh i

/-- Block p, of Ln cells, has a catcher from place o on; its other cells are hh's. -/
def CatOff (w : World) (p o Ln : Nat) (tt : TypeId) (hh : Nat → Value) (tk : Bool) (K M O S z n : Nat) (of : Nat → Nat) (kn : Kn) : Prop := o + 89 ≤ Ln ∧ w.rowIs p tt Ln (inCat o hh tk K M O S z n of kn)

theorem inCat_in (o : Nat) (hh : Nat → Value) (tk : Bool) (K M O S z n : Nat) (of : Nat → Nat) (kn : Kn) (i : Nat) (hi : i < 89) : inCat o hh tk K M O S z n of kn (o + i) = catCell tk K M O S z n of kn i := by
  unfold inCat
  rw [if_neg (by omega), if_pos (by omega), Nat.add_sub_cancel_left]

theorem inCat_box (o : Nat) (hh : Nat → Value) (tk : Bool) (K M O S z n : Nat) (of : Nat → Nat) (kn : Kn) (i : Nat) : inBox (o + 6) (inCat o hh tk K M O S z n of kn0) K n z of kn i = inCat o hh tk K M O S z n of kn i := by
  unfold inBox
  by_cases h1 : i < o + 6
  · rw [if_pos h1]
    unfold inCat
    by_cases h2 : i < o
    · rw [if_pos h2, if_pos h2]
    · rw [if_neg h2, if_neg h2, if_pos (by omega), if_pos (by omega)]
      unfold catCell
      have : i - o = 0 ∨ i - o = 1 ∨ i - o = 2 ∨ i - o = 3 ∨ i - o = 4 ∨ i - o = 5 := by omega
      rcases this with h | h | h | h | h | h <;> rw [h] <;> rfl
  · rw [if_neg h1]
    by_cases h2 : i < o + 6 + 83
    · rw [if_pos h2]
      unfold inCat catCell
      rw [if_neg (by omega), if_pos (by omega), if_neg (by omega), if_neg (by omega), if_neg (by omega), if_neg (by omega), if_neg (by omega), if_neg (by omega), show i - o - 6 = i - (o + 6) by omega]
    · rw [if_neg h2]
      unfold inCat
      rw [if_neg (by omega), if_neg (by omega), if_neg (by omega), if_neg (by omega)]

namespace CatOff
variable {w w' : World} {p o Ln : Nat} {tt : TypeId} {hh : Nat → Value} {tk : Bool} {K M O S z n : Nat} {of : Nat → Nat} {kn : Kn}

theorem lt (h : CatOff w p o Ln tt hh tk K M O S z n of kn) : p < w.heap.size := World.rowIs.lt h.2

theorem block (h : CatOff w p o Ln tt hh tk K M O S z n of kn) (hb : w'.heap[p]? = w.heap[p]?) : CatOff w' p o Ln tt hh tk K M O S z n of kn := ⟨h.1, World.rowIs.of_block h.2 hb⟩

theorem on (h : CatOff w p o Ln tt hh tk K M O S z n of kn) {m : Nat} (hm : w.heap.size ≤ m) (hb : Below m w w') : CatOff w' p o Ln tt hh tk K M O S z n of kn := h.block (hb.block p (Nat.lt_of_lt_of_le h.lt hm))

theorem box (h : CatOff w p o Ln tt hh tk K M O S z n of kn) : BoxOff w p (o + 6) Ln tt (inCat o hh tk K M O S z n of kn0) K n z of kn :=
  ⟨by have := h.1; omega, World.rowIs.congr h.2 (fun i _ => (inCat_box o hh tk K M O S z n of kn i).symm)⟩

theorem of_box (h : BoxOff w p (o + 6) Ln tt (inCat o hh tk K M O S z n of kn0) K n z of kn) : CatOff w p o Ln tt hh tk K M O S z n of kn :=
  ⟨by have := h.1; omega, World.rowIs.congr h.2 (fun i _ => inCat_box o hh tk K M O S z n of kn i)⟩

theorem cell (h : CatOff w p o Ln tt hh tk K M O S z n of kn) {i : Nat} (hi : i < 89) : w.cell? ⟨p, o + i, none⟩ = some (catCell tk K M O S z n of kn i) := by
  have := World.rowIs.cell h.2 (i := o + i) (by have := h.1; omega)
  rw [inCat_in _ _ _ _ _ _ _ _ _ _ _ _ hi] at this
  exact this

theorem head (h : CatOff w p o Ln tt hh tk K M O S z n of kn) : w.cell? ⟨p, o, none⟩ = some (.bool tk) ∧ w.cell? ⟨p, o + 1, none⟩ = some (.int .i64 (K : Int)) ∧ w.cell? ⟨p, o + 2, none⟩ = some (.int .i64 (M : Int)) ∧ w.cell? ⟨p, o + 3, none⟩ = some (.int .i64 (O : Int)) ∧ w.cell? ⟨p, o + 4, none⟩ = some (.int .i64 (S : Int)) ∧ w.cell? ⟨p, o + 5, none⟩ = some (.int .i64 (z : Int)) :=
  ⟨h.cell (i := 0) (by omega), h.cell (i := 1) (by omega), h.cell (i := 2) (by omega), h.cell (i := 3) (by omega), h.cell (i := 4) (by omega), h.cell (i := 5) (by omega)⟩

theorem frozen (h : CatOff w p o Ln tt hh tk K M O S z n of kn) (i : Nat) : w.frozen? ⟨p, i, none⟩ = false := World.rowIs.frozen h.2 i

theorem there (h : CatOff w p o Ln tt hh tk K M O S z n of kn) : w.there p o 89 := fun j hj => ⟨by rw [h.cell hj]; rfl, h.frozen _⟩

end CatOff

/-- A catcher that has heard nothing. -/
abbrev CatNone (w : World) (p o Ln : Nat) (tt : TypeId) (hh : Nat → Value) : Prop := CatOff w p o Ln tt hh false 0 0 0 0 0 0 (fun _ => 0) kn0

/-- .. and one that has. -/
abbrev CatHas (w : World) (p o Ln : Nat) (tt : TypeId) (hh : Nat → Value) (K M O S z : Nat) (kn : Kn) : Prop := CatOff w p o Ln tt hh true K M O S z (K + M) (ofs K M O S) kn

set_option maxRecDepth 100000 in
set_option maxHeartbeats 4000000 in
theorem pwants_none (p o Ln : Nat) (tt : TypeId) (hh : Nat → Value) (w : World) (hc : CatNone w p o Ln tt hh) :
    Calls Tryz.prog 60 #[.pointer (some ⟨p, o, none⟩)] w fun e w' => e = .returned (.int .i64 (-1)) ∧ w' = w := by
  obtain ⟨c0, _⟩ := hc.head
  clear hc
  go_enter Tryz.func60, Tryz.ntmps60
  go_wp2_with fail
  go_ret
  exact ⟨rfl, rfl⟩

set_option maxRecDepth 100000 in
set_option maxHeartbeats 4000000 in
theorem pwants_has (p o Ln : Nat) (tt : TypeId) (hh : Nat → Value) (K M O S z : Nat) (kn : Kn) (w : World) (hK : K ≤ 20) (hc : CatHas w p o Ln tt hh K M O S z kn) :
    Calls Tryz.prog 60 #[.pointer (some ⟨p, o, none⟩)] w fun e w' => e = .returned (.int .i64 (openK kn K : Int)) ∧ w' = w := by
  obtain ⟨c0, _⟩ := hc.head
  have hn := qneed_any p (o + 6) Ln tt _ K (K + M) z (ofs K M O S) kn w hK hc.box
  clear hc
  generalize openK kn K = nd at *
  go_enter Tryz.func60, Tryz.ntmps60
  go_wp2_with fail
  refine hn.mono ?_
  rintro e w1 ⟨rfl, h1⟩
  obtain rfl := h1.symm
  go_wp2_with fail
  go_ret
  exact ⟨rfl, rfl⟩

end Go.Proofs.YtnjaofkieajnlaaGreat

/- The document's own Object: whose data these are. -/
namespace Go.Proofs.YtnjaofkieajnlaaGreat
open Go.RowKit

/-- The first texts of a list, joined. -/
def catTo (l : List ByteArray) : Nat → ByteArray
  | 0 => ByteArray.empty
  | i + 1 => catTo l i ++ l.getD i ByteArray.empty

theorem catTo_le (l : List ByteArray) (i d : Nat) : (catTo l i).size ≤ (catTo l (i + d)).size := by
  induction d with
  | zero => exact Nat.le_refl _
  | succ d ih =>
    show _ ≤ (catTo l (i + d) ++ l.getD (i + d) ByteArray.empty).size
    rw [ByteArray.size_append]
    omega

/-- The length that data tell. -/
def objLen (t : ByteArray) : Nat := (byteAt t 0).toNat + 256 * (byteAt t 1).toNat

/-- The object of data. -/
def objText (t : ByteArray) : ByteArray := if objLen t + 2 ≤ t.size then t.extract 2 (2 + objLen t) else ByteArray.empty

/-- Whether data are an object's. -/
def objOk (t : ByteArray) : Bool := if objLen t + 2 ≤ t.size then decide (t.extract (2 + objLen t) t.size = zeroB (t.size - (2 + objLen t))) else false

set_option maxRecDepth 100000 in
set_option maxHeartbeats 8000000 in
theorem robject_any (v : Value) (l : List ByteArray) (t : ByteArray) (w : World) (ht : TextsAt w v l) (hll : l.length ≤ 1000) (hct : catTo l l.length = t) (hts : t.size ≤ 1000) :
    Calls Tryz.prog 62 #[v] w fun e w' => e = .returned (.tuple #[.string (objText t), .bool (objOk t)]) ∧ Below w.heap.size w w' := by
  obtain ⟨ao, cap, rfl, hcap, hc⟩ := ht
  have HC := hide hc
  have HT := hide hct
  have hot : objText t = if objLen t + 2 ≤ t.size then t.extract 2 (2 + objLen t) else ByteArray.empty := rfl
  have hok : objOk t = if objLen t + 2 ≤ t.size then decide (t.extract (2 + objLen t) t.size = zeroB (t.size - (2 + objLen t))) else false := rfl
  have HO1 := hide hot
  have HO2 := hide hok
  have hlen : objLen t = (byteAt t 0).toNat + 256 * (byteAt t 1).toNat := rfl
  generalize objText t = r1 at *
  generalize objOk t = r2 at *
  generalize objLen t = L at *
  have HL := hide hlen
  clear hc hct hot hok hlen
  go_enter Tryz.func62, Tryz.ntmps62
  go_wp2_with fail
  go_loop [4, 13] (fun tv iv => ∃ k : Nat, k ≤ l.length ∧ iv = .int .i64 (k : Int) ∧ tv = .string (catTo l k)) (fun _ iv => l.length - (intOf iv).toNat)
  case atStart => exact ⟨0, Nat.zero_le _, rfl, rfl⟩
  case round =>
    obtain ⟨k, hk, rfl, rfl⟩ := hrel
    by_cases hlt : k < l.length
    · obtain ⟨q, o, rfl, hq, hcell⟩ := HC.out k hlt
      have hnx : catTo l (k + 1) = catTo l k ++ l.getD k ByteArray.empty := rfl
      have Hnx := hide hnx
      have hle := catTo_le l (k + 1) (l.length - (k + 1))
      rw [show k + 1 + (l.length - (k + 1)) = l.length by omega, HT.out, hnx, ByteArray.size_append] at hle
      clear hnx
      generalize l.getD k ByteArray.empty = p at *
      generalize catTo l k = tk at *
      go_wp2_with fail
      go_round
      case rel => exact ⟨k + 1, by omega, by go_num, by rw [Hnx.out]⟩
      case measure => simp [intOf]; omega
    · have hkk : k = l.length := by omega
      subst hkk
      rw [HT.out]
      clear HT HC
      go_wp2_with fail
      go_loop [7] (fun nv => ∃ n : Nat, n ≤ L ∧ n ≤ 1000 ∧ nv = .int .i64 (n : Int)) (fun nv => 1001 - (intOf nv).toNat)
      case atStart => exact ⟨0, Nat.zero_le _, Nat.zero_le _, rfl⟩
      case round =>
        obtain ⟨n, hnL, hn1, rfl⟩ := hrel
        by_cases hn2 : n + 2 ≤ t.size
        · have g0 := byteAt_get t 0 (by omega)
          have g1 := byteAt_get t 1 (by omega)
          have b0 := (byteAt t 0).toNat_lt
          have b1 := (byteAt t 1).toNat_lt
          have hand : bits BinOp.and IntKind.i64 (n : Int) 255 = ((n % 256 : Nat) : Int) := by
            rw [show (255 : Int) = ((255 : Nat) : Int) from rfl, i64_and_nat n 255 (by omega) (by omega), show (255 : Nat) = 2 ^ 8 - 1 from rfl, Nat.and_two_pow_sub_one_eq_mod]
          have i1 : (1 : Int) < (t.size : Int) := by omega
          have i0 : (0 : Int) < (t.size : Int) := by omega
          by_cases hnl : n = L
          · subst hnl
            have y0 : ((byteAt t 0).toNat : Int) = ((n % 256 : Nat) : Int) := by have := HL.out; omega
            have y1 : (((byteAt t 1).toNat : Int) == (n : Int) / 256) = true := by have := HL.out; simp; omega
            have hnt := fun W => noughts_any (t.size - (2 + n)) W (by omega)
            have hr1 : r1 = t.extract 2 (2 + n) := by rw [HO1.out, if_pos hn2]
            have hr2 : r2 = decide (t.extract (2 + n) t.size = zeroB (t.size - (2 + n))) := by rw [HO2.out, if_pos hn2]
            have hes : (t.extract (2 + n) t.size).size = t.size - (2 + n) := by rw [ByteArray.size_extract]; omega
            have HR1 := hide hr1
            have HR2 := hide hr2
            clear hr1 hr2 HO1 HO2 HL
            by_cases hz : t.extract (2 + n) t.size = zeroB (t.size - (2 + n))
            · have hzb : ((t.extract (2 + n) t.size).toList == (zeroB (t.size - (2 + n))).toList) = true := by rw [hz]; simp
              have Hz := hide hz
              clear hz
              go_wp2_with fail
              generalize t.extract (2 + n) t.size = rs at *
              generalize zeroB (t.size - (2 + n)) = zs at *
              go_quiet (first | (go_at_call 54; refine Calls.quiet_of_same (hnt _)))
              go_wp2_with fail
              go_ret2
              exact ⟨by rw [HR1.out, HR2.out, decide_eq_true Hz.out]; rfl, ⟨rfl, rfl, rfl, Nat.le_refl _, fun _ _ => rfl⟩⟩
            · have hzb := beq_bytes hz
              have Hz := hide hz
              clear hz
              go_wp2_with fail
              generalize t.extract (2 + n) t.size = rs at *
              generalize zeroB (t.size - (2 + n)) = zs at *
              go_quiet (first | (go_at_call 54; refine Calls.quiet_of_same (hnt _)))
              go_wp2_with fail
              go_ret2
              exact ⟨by rw [HR1.out, HR2.out, decide_eq_false Hz.out]; rfl, ⟨rfl, rfl, rfl, Nat.le_refl _, fun _ _ => rfl⟩⟩
          · have hor : ((byteAt t 0).toNat ≠ n % 256) ∨ ((byteAt t 0).toNat = n % 256 ∧ (byteAt t 1).toNat ≠ n / 256) := by have := HL.out; omega
            rcases hor with hx | ⟨hx, hy⟩
            · have y0 : (((byteAt t 0).toNat : Int) == ((n % 256 : Nat) : Int)) = false := by simp; omega
              go_wp2_with fail
              go_round
              case rel => exact ⟨n + 1, by omega, by omega, by go_num⟩
              case measure => simp [intOf]; omega
            · have y0 : ((byteAt t 0).toNat : Int) = ((n % 256 : Nat) : Int) := by omega
              have y1 : (((byteAt t 1).toNat : Int) == (n : Int) / 256) = false := by simp; omega
              go_wp2_with fail
              go_round
              case rel => exact ⟨n + 1, by omega, by omega, by go_num⟩
              case measure => simp [intOf]; omega
        · have hr1 : r1 = ByteArray.empty := by rw [HO1.out, if_neg (by omega)]
          have hr2 : r2 = false := by rw [HO2.out, if_neg (by omega)]
          have HR1 := hide hr1
          have HR2 := hide hr2
          clear hr1 hr2 HO1 HO2 HL
          go_wp2_with fail
          go_ret2
          exact ⟨by rw [HR1.out, HR2.out]; rfl, Below.refl _ _⟩

end Go.Proofs.YtnjaofkieajnlaaGreat

/- The document's own Put. -/
namespace Go.Proofs.YtnjaofkieajnlaaGreat
open Go.RowKit

set_option maxRecDepth 100000 in
set_option maxHeartbeats 4000000 in
theorem rput_arg (r K M O S z : Nat) (i : Int) (t : ByteArray) (av pv : Value) (w : World) (hK : K ≤ 20) (hM : M ≤ 20) (hi : i < 0 ∨ (K : Int) + (M : Int) ≤ i) (hbox : w.heap[r]? = some (rboxB K M O S z av pv)) :
    Calls Tryz.prog 27 #[.pointer (some ⟨r, 0, none⟩), .int .i64 i, .string t] w fun e w' => e = .returned (.int .i64 2) ∧ Below w.heap.size w w' := by
  obtain ⟨c0, c1, c2, c3, c4, c5, c6, hr⟩ := rbox_cells hbox
  have hbd : ∀ n, Below w.heap.size w (w.drewN n) := fun n => ((Chg.refl (fun _ => False) w).drewN n).below (fun _ _ x => x)
  go_enter Tryz.func27, Tryz.ntmps27
  by_cases h0 : i < 0
  · have hd : decide (i < 0) = true := decide_eq_true h0
    go_wp2_with fail
    go_quiet (fail)
    all_goals
      go_wp2_with fail
      go_ret
      exact ⟨rfl, hbd _⟩
  · have hd : decide (i < 0) = false := decide_eq_false h0
    have hd2 : (K : Int) + (M : Int) ≤ i := by omega
    go_wp2_with fail
    go_quiet (fail)
    all_goals
      go_wp2_with fail
      go_ret
      exact ⟨rfl, hbd _⟩

set_option maxRecDepth 100000 in
set_option maxHeartbeats 4000000 in
theorem rput_shape (r K M O S z i : Nat) (t : ByteArray) (av pv : Value) (w : World) (hK : K ≤ 20) (hM : M ≤ 20) (hi : i < K + M) (ht : t.size ≠ z) (hbox : w.heap[r]? = some (rboxB K M O S z av pv)) :
    Calls Tryz.prog 27 #[.pointer (some ⟨r, 0, none⟩), .int .i64 (i : Int), .string t] w fun e w' => e = .returned (.int .i64 3) ∧ Below w.heap.size w w' := by
  obtain ⟨c0, c1, c2, c3, c4, c5, c6, hr⟩ := rbox_cells hbox
  have hbd : ∀ n, Below w.heap.size w (w.drewN n) := fun n => ((Chg.refl (fun _ => False) w).drewN n).below (fun _ _ x => x)
  have hd : decide ((i : Int) < 0) = false := decide_eq_false (by omega)
  have hd2 : ¬ (K : Int) + (M : Int) ≤ (i : Int) := by omega
  have hb : ((t.size : Int) != (z : Int)) = true := by simp; omega
  go_enter Tryz.func27, Tryz.ntmps27
  go_wp2_with fail
  go_quiet (fail)
  all_goals
    go_wp2_with fail
    go_ret
    exact ⟨rfl, hbd _⟩

set_option maxRecDepth 100000 in
set_option maxHeartbeats 8000000 in
theorem rput_told (r K M O S z i : Nat) (t : ByteArray) (av pv : Value) (ps : List (Nat × ByteArray)) (w : World) (hK : 1 ≤ K ∧ K ≤ 20) (hM : 1 ≤ M ∧ M ≤ 20) (hO : 1 ≤ O ∧ O ≤ M) (hS : S ≤ 65535) (hz : 0 < z ∧ z ≤ 1000)
    (hbox : RBoxAt w r K M O S z av pv ps) (hps : ps.length ≤ 900) (hin : ∀ x ∈ ps, x.1 < K + M ∧ x.2.size = z) (hi : i < K + M) (ht : t.size = z) (htd : (told (boxFacts K M O S z ps) (2 ^ i) z).2 = true) :
    Calls Tryz.prog 27 #[.pointer (some ⟨r, 0, none⟩), .int .i64 (i : Int), .string t] w fun e w' => e = .returned (.int .i64 (if (told (boxFacts K M O S z ps) (2 ^ i) z).1 = t then 0 else 4)) ∧ Below w.heap.size w w' := by
  obtain ⟨c0, c1, c2, c3, c4, c5, c6, hr⟩ := rbox_cells hbox.box
  have hbd : ∀ n, Below w.heap.size w (w.drewN n) := fun n => ((Chg.refl (fun _ => False) w).drewN n).below (fun _ _ x => x)
  have hd : decide ((i : Int) < 0) = false := decide_eq_false (by omega)
  have hd2 : ¬ (K : Int) + (M : Int) ≤ (i : Int) := by omega
  have hb : ((t.size : Int) != (z : Int)) = false := by simp; omega
  have hget := fun w hb hA hP => rget_any r K M O S z i av pv ps w hK hM hO hS hz hb hA hP hps hin (by omega)
  rw [htd] at hget
  clear htd
  generalize (told (boxFacts K M O S z ps) (2 ^ i) z).1 = s at *
  go_enter Tryz.func27, Tryz.ntmps27
  by_cases he : s = t
  · subst he
    rw [if_pos rfl]
    go_wp2_with fail
    go_quiet (fail)
    all_goals
      go_wp2_with fail
      refine (hget _ (hbox.on (Nat.le_refl _) (hbd _)).box (hbox.on (Nat.le_refl _) (hbd _)).nums (hbox.on (Nat.le_refl _) (hbd _)).texts).mono ?_
      rintro e w1 ⟨rfl, hb1⟩
      have hb2 := (hbd nq).trans (Below.mono hb1 (hbd nq).size)
      clear hget hb1 hbox c0 c1 c2 c3 c4 c5 c6
      go_wp2_with fail
      go_ret
      exact ⟨rfl, hb2⟩
  · rw [if_neg he]
    have hne := beq_bytes he
    go_wp2_with fail
    go_quiet (fail)
    all_goals
      go_wp2_with fail
      refine (hget _ (hbox.on (Nat.le_refl _) (hbd _)).box (hbox.on (Nat.le_refl _) (hbd _)).nums (hbox.on (Nat.le_refl _) (hbd _)).texts).mono ?_
      rintro e w1 ⟨rfl, hb1⟩
      have hb2 := (hbd nq).trans (Below.mono hb1 (hbd nq).size)
      clear hget hb1 hbox c0 c1 c2 c3 c4 c5 c6
      go_wp2_with fail
      go_ret
      exact ⟨rfl, hb2⟩

end Go.Proofs.YtnjaofkieajnlaaGreat

namespace Go.Proofs.YtnjaofkieajnlaaGreat
open Go.RowKit

set_option maxRecDepth 100000 in
set_option maxHeartbeats 8000000 in
theorem rput_new (r K M O S z i : Nat) (t : ByteArray) (av pv : Value) (ps : List (Nat × ByteArray)) (w : World) (hK : 1 ≤ K ∧ K ≤ 20) (hM : 1 ≤ M ∧ M ≤ 20) (hO : 1 ≤ O ∧ O ≤ M) (hS : S ≤ 65535) (hz : 0 < z ∧ z ≤ 1000)
    (hbox : RBoxAt w r K M O S z av pv ps) (hps : ps.length ≤ 900) (hin : ∀ x ∈ ps, x.1 < K + M ∧ x.2.size = z) (hi : i < K + M) (ht : t.size = z) (htd : (told (boxFacts K M O S z ps) (2 ^ i) z).2 = false) :
    Calls Tryz.prog 27 #[.pointer (some ⟨r, 0, none⟩), .int .i64 (i : Int), .string t] w fun e w' => e = .returned (.int .i64 0) ∧ ∃ av' pv', RBoxAt w' r K M O S z av' pv' (ps ++ [(i, t)]) ∧ Chg (fpR r av pv) w w' ∧ (∀ k, fpR r av' pv' k → fpR r av pv k ∨ w.heap.size ≤ k) := by
  obtain ⟨c0, c1, c2, c3, c4, c5, c6, hr⟩ := rbox_cells hbox.box
  have hbd : ∀ n, Below w.heap.size w (w.drewN n) := fun n => ((Chg.refl (fun _ => False) w).drewN n).below (fun _ _ x => x)
  have hd : decide ((i : Int) < 0) = false := decide_eq_false (by omega)
  have hd2 : ¬ (K : Int) + (M : Int) ≤ (i : Int) := by omega
  have hb : ((t.size : Int) != (z : Int)) = false := by simp; omega
  have hget := fun w hb hA hP => rget_any r K M O S z i av pv ps w hK hM hO hS hz hb hA hP hps hin (by omega)
  rw [htd] at hget
  clear htd
  generalize (told (boxFacts K M O S z ps) (2 ^ i) z).1 = s at *
  obtain ⟨i0, hii, hz0, hz1, hz2⟩ := info_parts Tryz.infoInt
  obtain ⟨j0, gi, gz0, gz1, gz2⟩ := info_parts Tryz.infoText
  go_enter Tryz.func27, Tryz.ntmps27
  go_wp2_with fail
  go_quiet (fail)
  all_goals
    go_wp2_with fail
    refine (hget _ (hbox.on (Nat.le_refl _) (hbd _)).box (hbox.on (Nat.le_refl _) (hbd _)).nums (hbox.on (Nat.le_refl _) (hbd _)).texts).mono ?_
    rintro e w1 ⟨rfl, hb1⟩
    have hb2 : Below w.heap.size w w1 := (hbd nq).trans (Below.mono hb1 (hbd nq).size)
    have hbx := hbox.on (Nat.le_refl _) hb2
    clear hget hb1 c0 c1 c2 c3 c4 c5 c6
    obtain ⟨c0, c1, c2, c3, c4, c5, c6, hr1⟩ := rbox_cells hbx.box
    have z5 := found_frozen hbx.box 5
    clear c0 c1 c2 c3 c4
    go_wp2_with (at_builtin; refine wpList_append_lies _ rfl (.tmp 51) (.tmp 53) 63 rfl 0 3 i0 (.int .i64 0) 1 8 Tryz.underlying63 hii hz0 hz1 hz2 rfl (by decide) _ _ _ rfl (hbx.oa.alloc _) ⟨w1.heap.size, 0, none⟩ 1 1 [.int .i64 (i : Int)] rfl rfl (one_news _ _ _) (one_oneCell rfl) (by decide) (by unfold maxLen; omega) (by omega) (Nat.zero_le _) (w1.heap.size + 1) (by simp) ?_)
    intro g cap w2 hown2 hgr2 hat2 hlt2
    have hgr := grownBy_of_alloc hgr2
    obtain ⟨hr2, hoa2, hop2, hcg2⟩ := rpush_at hbx hgr hown2
    have hra := owns_other hbx.oa hbx.box (by decide)
    have hr0 : w2.heap[r]? = some (rboxB K M O S z av pv) := by rw [hgr.block r hr1 (fun e => hra e.symm)]; exact hbx.box
    have hfp2 : ∀ k, (.slice (some ⟨g, 0, none⟩) (ps.length + 1) cap : Value).ownBlock = some k → fpR r av pv k ∨ w.heap.size ≤ k := fun k hk => by
      have : g = k := by simpa [Value.ownBlock] using hk
      subst this
      rcases hat2 with h | h
      · exact Or.inl (Or.inr (Or.inl h))
      · right; have := hb2.size; omega
    have hs2 : w1.heap.size ≤ w2.heap.size := hgr.size
    obtain ⟨d0, d1, d2, d3, d4, d5, d6, hr3⟩ := rbox_cells hr0
    have y5 := found_frozen hr0 5
    have y6 := found_frozen hr0 6
    clear d0 d1 d2 d3 d4 hown2 hgr2 hgr hat2 c5 c6 z5 hra hr0
    go_wp2_with (at_builtin; refine wpList_append_lies _ rfl (.tmp 61) (.tmp 63) 27 rfl 0 9 j0 (.string ByteArray.empty) 1 16 Tryz.underlying27 gi gz0 gz1 gz2 rfl (by decide) _ _ _ rfl (hop2.alloc _) ⟨w2.heap.size, 0, none⟩ 1 1 [.string t] rfl rfl (by have h := one_news (w2.setCell ⟨r, 5, none⟩ (.slice (some ⟨g, 0, none⟩) (ps.length + 1) cap)) (.string t) 9; simpa using h) (one_oneCell rfl) (by decide) (by unfold maxLen; omega) (by omega) (Nat.zero_le _) (w2.heap.size + 1) (by simp) ?_)
    intro g3 cap3 w3 hown3 hgr3 hat3 hlt3
    have hgr := grownBy_of_alloc hgr3
    obtain ⟨hr4, hoa4, hop4, hcg4⟩ := rpush_piece hr2 hoa2 hop2 hgr hown3
    have hrp := owns_other hop2 hr2 (by decide)
    have hr5 : w3.heap[r]? = some (rboxB K M O S z (.slice (some ⟨g, 0, none⟩) (ps.length + 1) cap) pv) := by rw [hgr.block r (by simp [World.setCell]; omega) (fun e => hrp e.symm)]; exact hr2
    have hfin : ∃ av' pv', RBoxAt (w3.setCell ⟨r, 6, none⟩ (.slice (some ⟨g3, 0, none⟩) (ps.length + 1) cap3)) r K M O S z av' pv' (ps ++ [(i, t)]) ∧ Chg (fpR r av pv) w (w3.setCell ⟨r, 6, none⟩ (.slice (some ⟨g3, 0, none⟩) (ps.length + 1) cap3)) ∧ (∀ k, fpR r av' pv' k → fpR r av pv k ∨ w.heap.size ≤ k) := by
      refine ⟨_, _, ⟨hr4, ?_, ?_⟩, ?_, ?_⟩
      · simpa [numsV] using hoa4
      · simpa [textV] using hop4
      · refine ((Chg.of_below hb2 (fpR r av pv)).trans hcg2 (fun _ _ h => h)).trans hcg4 (fun k _ hk => ?_)
        rcases hk with hk | hk
        · exact Or.inl hk
        · exact Or.inr (Or.inr hk)
      · intro k hk
        rcases hk with hk | hk | hk
        · exact Or.inl (Or.inl hk)
        · exact hfp2 k hk
        · have : g3 = k := by simpa [Value.ownBlock] using hk
          subst this
          rcases hat3 with h | h
          · exact Or.inl (Or.inr (Or.inr h))
          · right; have := hb2.size; omega
    obtain ⟨e0, e1, e2, e3, e4, e5, e6, hr6⟩ := rbox_cells hr5
    have x6 := found_frozen hr5 6
    clear e0 e1 e2 e3 e4 e5 hown3 hgr3 hgr hat3 d5 d6 y5 y6 hrp hr5 hr4 hoa4 hop4 hcg4 hr2 hoa2 hop2 hcg2 hfp2 hbx hbox
    go_wp2_with fail
    go_ret
    exact ⟨rfl, hfin⟩

end Go.Proofs.YtnjaofkieajnlaaGreat
