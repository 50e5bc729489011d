/- Texts of the proof, part 25. -/
import Derived.Test.YtnjaofkieajnlaaGreatTakenG21
import Derived.Test.YtnjaofkieajnlaaGreatTakenG23

/- The program's inbox: Whole and Lacks, by what was taken. -/
namespace Go.Proofs.YtnjaofkieajnlaaGreat
open Go.RowKit

theorem wo_kn0 (n : Nat) (f : Fct) : wo kn0 n f = f := by
  induction n with
  | zero => rfl
  | succ n ih =>
    show wo kn0 n (woStep kn0 n f) = f
    have e : woStep kn0 n f = f := by unfold woStep; rw [if_neg (fun h => h.2 rfl)]
    rw [e]
    exact ih

theorem left_kn0 (x : Nat) (p : ByteArray) : left kn0 x p = (x, p) := wo_kn0 20 (x, p)

set_option maxRecDepth 100000 in
set_option maxHeartbeats 4000000 in
theorem lwhole_none (p : Nat) (tt : TypeId) (K M O S z m : Nat) (ks : Nat → Kn) (w : World) (hc : InbAt w p tt 0 K M O S z m ks) :
    Calls Tryz.prog 65 #[.pointer (some ⟨p, 0, none⟩)] w fun e w' => e = .returned (.tuple #[.string ⟨#[]⟩, .int .i64 5]) ∧ w' = w := by
  obtain ⟨c0, _⟩ := hc.head
  have c0' : w.cell? ⟨p, 0, none⟩ = some (.int .i64 0) := c0
  clear hc c0
  go_enter Tryz.func65, Tryz.ntmps65
  go_wp2_with fail
  go_ret2
  exact ⟨rfl, rfl⟩

set_option maxRecDepth 100000 in
set_option maxHeartbeats 8000000 in
theorem lwhole_has (p : Nat) (tt : TypeId) (c K M O S z : Nat) (ks : Nat → Kn) (F : Nat → Nat → ByteArray × Bool) (w : World) (h1 : 1 ≤ c ∧ c ≤ 20) (hK : 1 ≤ K ∧ K ≤ 20) (hM : M ≤ 20) (hz : 1 ≤ z ∧ z ≤ 16) (hkn : ∀ i, i < c → KnOk K z (ks i)) (hc : InbAt w p tt c K M O S z c ks)
    (hF : ∀ i, i < c → ∀ j, j < K → ((F i j).2 = true ↔ (left (ks i) (ofs K M O S j) (zeroB z)).1 = 0)) (hF1 : ∀ i, i < c → ∀ j, j < K → (F i j).1 = (left (ks i) (ofs K M O S j) (zeroB z)).2) (hFs : ∀ i, i < c → ∀ j, (F i j).1.size = z) (PA PJ : Prop) (hPA : PA ↔ ∀ i, i < c → ∀ j, j < K → (F i j).2 = true) (hPJ : PJ ↔ (3 ≤ K * z ∧ joinOk (dataL K F c) (K * z - 2) c)) :
    Calls Tryz.prog 65 #[.pointer (some ⟨p, 0, none⟩)] w fun e w' => ((¬ PA → e = .returned (.tuple #[.string ⟨#[]⟩, .int .i64 5])) ∧ (PA → PJ → e = .returned (.tuple #[.string (objW (dataL K F c) c), .int .i64 0])) ∧ (PA → ¬ PJ → e = .returned (.tuple #[.string ⟨#[]⟩, .int .i64 8]))) ∧ Below w.heap.size w w' := by
  obtain ⟨c0, _⟩ := hc.head
  have hb : ((c : Int) == 0) = false := by simp; omega
  have hda := ldata_any p tt c K M O S z ks F w hK hM hz h1.2 hkn hc hF hF1 hFs
  have hN2 : K * z ≤ 320 := Nat.le_trans (Nat.mul_le_mul hK.2 hz.2) (by decide)
  have hDs : ∀ i, ((dataL K F c).getD i ByteArray.empty).size ≤ 320 := fun i => by
    by_cases hi : i < c
    · unfold dataL
      rw [List.getD_eq_getElem?_getD, List.getElem?_map, List.getElem?_range hi]
      show (joinTo (F i) K).size ≤ 320
      rw [joinTo_size (F i) z (hFs i hi)]
      exact hN2
    · rw [List.getD_eq_getElem?_getD, List.getElem?_eq_none (by rw [dataL_length]; omega)]
      exact Nat.zero_le _
  have hDl := dataL_length K F c
  have hro := fun W => room_any K z W hK.2 hz.2
  have hj1 := fun v W (h3 : 3 ≤ K * z) hT => ljoined_any v (dataL K F c) (K * z - 2) c W (by omega) hDl h1.2 hDs hT
  have hmul : (K : Int) * (z : Int) = ((K * z : Nat) : Int) := by simp
  have Hmul := hide hmul
  clear hmul
  have HF := hide hPA
  have HJ := hide hPJ
  have hcO := hc
  clear hF hF1 hFs hkn hPA hPJ hDs hc
  rw [← HF.out] at hda
  generalize dataL K F c = D at *
  go_enter Tryz.func65, Tryz.ntmps65
  go_wp2_with fail
  refine hda.mono ?_
  rintro e w1 ⟨⟨ha, hn⟩, hb1⟩
  have hc1 := hcO.on (Nat.le_refl _) hb1
  obtain ⟨d0, d1, d2, d3, d4, d5⟩ := hc1.head
  clear hda c0
  by_cases hall : PA
  · obtain ⟨v, rfl, hown⟩ := ha hall
    have hT := owns_texts hown hDl.symm
    have HP := hide hall
    clear ha hn hall hown
    go_upto_region 6 with fail
    go_region_held3 (fun w' => w'.cell? ⟨p, 1, none⟩ = some (.int .i64 (K : Int)) ∧ w'.cell? ⟨p, 5, none⟩ = some (.int .i64 (z : Int)))
      (first | (exact ⟨d1, d5⟩) | go_keep)
      (first
        | (go_at_call 101; refine (hro _).mono ?_; rintro e w2 ⟨rfl, h2⟩; obtain rfl := h2.symm))
    all_goals
      have hTd : TextsAt w1.drew v D := hT
      have hbd : Below w.heap.size w w1.drew := hb1.drew
      (try (rename_i hheld; clear hheld))
      generalize w1.drew = V at *
      clear hT hb1 hc1 d0 d1 d2 d3 d4 d5 hcO
      by_cases h3 : 3 ≤ K * z
      · have hjj := hj1 v V h3 hTd
        have hmul2 : (K : Int) * (z : Int) - 2 = ((K * z - 2 : Nat) : Int) := by rw [Hmul.out]; omega
        rw [← hmul2] at hjj
        have H3 := hide h3
        clear hmul2 hj1 h3
        go_wp2_with fail
        refine hjj.mono ?_
        rintro e w2 ⟨⟨q1, q2⟩, hb2⟩
        have hbw2 := hbd.trans (hb2.mono hbd.size)
        clear hjj hb2 hbd hTd
        by_cases hjo : joinOk D (K * z - 2) c
        · rw [q1 hjo]
          have HPJ := hide (HJ.out.2 ⟨H3.out, hjo⟩)
          clear q1 q2 hjo
          generalize hX : objW D c = X at *
          have HX := hide hX
          clear hX
          go_wp2_with fail
          go_ret2
          exact ⟨⟨fun h => absurd HP.out h, fun _ _ => by rw [← HX.out]; rfl, fun _ h => absurd HPJ.out h⟩, hbw2⟩
        · rw [q2 hjo]
          have HPJ := hide (show ¬ PJ from fun h => hjo (HJ.out.1 h).2)
          clear q1 q2 hjo
          go_wp2_with fail
          go_ret2
          exact ⟨⟨fun h => absurd HP.out h, fun _ h => absurd h HPJ.out, fun _ _ => rfl⟩, hbw2⟩
      · have hjj := ljoined_small v ((K : Int) * (z : Int) - 2) V (by rw [Hmul.out]; omega)
        have HPJ := hide (show ¬ PJ from fun h => h3 (HJ.out.1 h).1)
        clear hj1 h3
        go_wp2_with fail
        refine hjj.mono ?_
        rintro e w2 ⟨rfl, hb2⟩
        have hbw2 := hbd.trans (hb2.mono hbd.size)
        clear hjj hb2 hbd hTd
        go_wp2_with fail
        go_ret2
        exact ⟨⟨fun h => absurd HP.out h, fun _ h => absurd h HPJ.out, fun _ _ => rfl⟩, hbw2⟩
  · rw [hn hall]
    have HP := hide hall
    clear ha hn hall
    go_wp2_with fail
    go_ret2
    exact ⟨⟨fun _ => rfl, fun h => absurd h HP.out, fun h => absurd h HP.out⟩, hb1⟩

/-- What is told of a part's data. -/
def isG (s : IS) (i j : Nat) : ByteArray × Bool := ((left (s.parts.getD i CS.zero).kn (ofs s.K s.M s.O s.S j) (zeroB s.z)).2, decide ((left (s.parts.getD i CS.zero).kn (ofs s.K s.M s.O s.S j) (zeroB s.z)).1 = 0))

theorem ISok.kn {s : IS} (h : ISok s) {i : Nat} (hi : i < s.parts.length) : KnOk s.K s.z (s.parts.getD i CS.zero).kn := by
  obtain ⟨hc, hp⟩ := h.part hi
  cases hk : (s.parts.getD i CS.zero).tk with
  | true =>
    have := (hc.rel hk).ok
    obtain ⟨e1, _, _, _, e5⟩ := hp hk
    rwa [e1, e5] at this
  | false =>
    rw [hc.none hk]
    exact kn0_ok _ _

theorem isG_size {s : IS} (h : ISok s) {i : Nat} (hi : i < s.parts.length) (j : Nat) : (isG s i j).1.size = s.z := (left_ok (h.kn hi) (ofs s.K s.M s.O s.S j) (zeroB s.z) (zeroB_size s.z)).size

theorem isG_taken {s : IS} (h : ISok s) {i : Nat} (hi : i < s.parts.length) (hk : (s.parts.getD i CS.zero).tk = true) : isG s i = csG (s.parts.getD i CS.zero) := by
  obtain ⟨e1, e2, e3, e4, e5⟩ := (h.part hi).2 hk
  funext j
  unfold isG csG
  rw [e1, e2, e3, e4, e5]

theorem open_iff {s : IS} (h : ISok s) {i : Nat} (hi : i < s.parts.length) : (objE (s.parts.getD i CS.zero)).2 = 5 ↔ ¬ ∀ j, j < s.K → (isG s i j).2 = true := by
  have sp := h.spec (fun e => by rw [e] at hi; exact absurd hi (Nat.not_lt_zero _))
  cases hk : (s.parts.getD i CS.zero).tk with
  | true =>
    obtain ⟨e1, _⟩ := (h.part hi).2 hk
    rw [isG_taken h hi hk, ← e1, ← csAll_iff]
    unfold objE
    cases ha : csAll (s.parts.getD i CS.zero) with
    | true =>
      rw [if_pos ⟨hk, rfl⟩]
      split <;> simp
    | false => rw [if_neg (by simp)]; simp
  | false =>
    have hz := (h.part hi).1.none hk
    unfold objE
    rw [if_neg (by rw [hk]; simp)]
    refine ⟨fun _ hall => ?_, fun _ => rfl⟩
    have := hall 0 (by have := sp.hK; omega)
    unfold isG at this
    rw [hz] at this
    have h2 : (left kn0 (ofs s.K s.M s.O s.S 0) (zeroB s.z)).1 = 0 := of_decide_eq_true this
    rw [left_kn0, ofs_data _ _ _ _ _ (by have := sp.hK; omega)] at h2
    exact absurd h2 (by show ¬ 2 ^ 0 = 0; decide)

theorem full_obj {s : IS} (h : ISok s) {i : Nat} (hi : i < s.parts.length) (hall : ∀ j, j < s.K → (isG s i j).2 = true) : ((objE (s.parts.getD i CS.zero)).2 = 0 ↔ objOk (joinTo (isG s i) s.K) = true) ∧ (objOk (joinTo (isG s i) s.K) = true → (objE (s.parts.getD i CS.zero)).1 = objText (joinTo (isG s i) s.K)) := by
  have hk : (s.parts.getD i CS.zero).tk = true := by
    cases hk : (s.parts.getD i CS.zero).tk with
    | true => rfl
    | false =>
      have h5 : (objE (s.parts.getD i CS.zero)).2 = 5 := by unfold objE; rw [if_neg (by rw [hk]; simp)]
      exact absurd hall ((open_iff h hi).1 h5)
  obtain ⟨e1, _⟩ := (h.part hi).2 hk
  have hg := isG_taken h hi hk
  have hca : csAll (s.parts.getD i CS.zero) = true := by
    rw [csAll_iff, e1, ← hg]; exact hall
  have ho : objE (s.parts.getD i CS.zero) = if objOk (joinTo (isG s i) s.K) = true then (objText (joinTo (isG s i) s.K), 0) else (⟨#[]⟩, 8) := by
    unfold objE
    rw [if_pos ⟨hk, hca⟩, hg, e1]
  rw [ho]
  cases hj : objOk (joinTo (isG s i) s.K) with
  | true => rw [if_pos rfl]; exact ⟨⟨fun _ => rfl, fun _ => rfl⟩, fun _ => rfl⟩
  | false => rw [if_neg (by simp)]; exact ⟨⟨fun e => (by cases e), fun e => (by cases e)⟩, fun e => (by cases e)⟩

theorem dataL_getD (K : Nat) (F : Nat → Nat → ByteArray × Bool) (n i : Nat) (h : i < n) : (dataL K F n).getD i ByteArray.empty = joinTo (F i) K := by
  unfold dataL
  rw [List.getD_eq_getElem?_getD, List.getElem?_map, List.getElem?_range h]; rfl

theorem whole_same {s : IS} (hok : ∀ i, i < s.parts.length → (objE (s.parts.getD i CS.zero)).1 = objText (joinTo (isG s i) s.K)) (n : Nat) (hn : n ≤ s.parts.length) : wholeTo s n = objW (dataL s.K (isG s) s.parts.length) n := by
  induction n with
  | zero => rfl
  | succ n ih =>
    show wholeTo s n ++ _ = objW _ n ++ _
    rw [ih (by omega), hok n (by omega), dataL_getD _ _ _ _ (by omega)]

theorem list_eq_range {α : Type} {n m : Nat} {f g : Nat → α} : (List.range n).map f = (List.range m).map g ↔ (n = m ∧ ∀ i, i < m → f i = g i) := by
  constructor
  · intro h
    have hl : n = m := by have := congrArg List.length h; simpa using this
    subst hl
    refine ⟨rfl, fun i hi => ?_⟩
    have := congrArg (fun l => l[i]?) h
    simpa [List.getElem?_range hi] using this
  · rintro ⟨rfl, h⟩
    exact List.map_congr_left (fun i hi => h i (List.mem_range.1 hi))

set_option maxHeartbeats 2000000 in
theorem owhole_any (p : Nat) (tt : TypeId) (s : IS) (w : World) (hc : ProgInb w p tt s) (hs : ISok s) :
    Calls Tryz.prog 65 #[.pointer (some ⟨p, 0, none⟩)] w fun e w' => e = .returned (.tuple #[.string (wholeE s).1, .int .i64 (wholeE s).2]) ∧ Below w.heap.size w w' := by
  by_cases hn : s.parts = []
  · rw [whole_open (Or.inl hn)]
    have hz := hs.none hn
    subst hz
    exact (lwhole_none p tt _ _ _ _ _ _ _ w hc).mono fun e w' ⟨h1, h2⟩ => ⟨h1, by rw [h2]; exact Below.refl _ _⟩
  · have sp := hs.spec hn
    have hlen : 1 ≤ s.parts.length := by
      rcases Nat.eq_zero_or_pos s.parts.length with h | h
      · exact absurd (List.eq_nil_of_length_eq_zero h) hn
      · exact h
    refine (lwhole_has p tt s.parts.length s.K s.M s.O s.S s.z _ (isG s) w ⟨hlen, hs.len⟩ sp.hK sp.hM.2 sp.hz (fun i hi => hs.kn hi) hc (fun i _ j _ => decide_eq_true_iff) (fun i _ j _ => rfl) (fun i hi j => isG_size hs hi j) (∀ i, i < s.parts.length → ∀ j, j < s.K → (isG s i j).2 = true) (3 ≤ s.K * s.z ∧ joinOk (dataL s.K (isG s) s.parts.length) (s.K * s.z - 2) s.parts.length) Iff.rfl Iff.rfl).mono fun e w' ⟨⟨h5, h0, h8⟩, hb⟩ => ⟨?_, hb⟩
    by_cases hall : ∀ i, i < s.parts.length → ∀ j, j < s.K → (isG s i j).2 = true
    · have hob := fun i hi => full_obj hs (i := i) hi (hall i hi)
      have hne5 : ∀ i, i < s.parts.length → (objE (s.parts.getD i CS.zero)).2 ≠ 5 := fun i hi e => ((open_iff hs hi).1 e) (hall i hi)
      by_cases hform : ∀ i, i < s.parts.length → objOk (joinTo (isG s i) s.K) = true
      · have hok1 := fun i hi => (hob i hi).2 (hform i hi)
        have hW := whole_same hok1 s.parts.length (Nat.le_refl _)
        have hjo : joinOk (dataL s.K (isG s) s.parts.length) (s.K * s.z - 2) s.parts.length ↔ (partsN (wholeTo s s.parts.length) (s.K * s.z - 2) = s.parts.length ∧ ∀ q, q < s.parts.length → (objE (s.parts.getD q CS.zero)).1 = partT (wholeTo s s.parts.length) (s.K * s.z - 2) q) := by
          unfold joinOk cutL objL
          rw [← hW, list_eq_range]
          constructor
          · rintro ⟨_, e1, e2⟩
            exact ⟨e1, fun q hq => by rw [e2 q hq, dataL_getD _ _ _ _ hq, hok1 q hq]⟩
          · rintro ⟨e1, e2⟩
            exact ⟨fun i hi => by rw [dataL_getD _ _ _ _ hi]; exact hform i hi, e1, fun q hq => by rw [dataL_getD _ _ _ _ hq, ← e2 q hq, hok1 q hq]⟩
        by_cases hJ : 3 ≤ s.K * s.z ∧ joinOk (dataL s.K (isG s) s.parts.length) (s.K * s.z - 2) s.parts.length
        · rw [h0 hall hJ, whole_yes hn (fun i hi => ((hob i hi).1).2 (hform i hi)) hJ.1 (hjo.1 hJ.2).1 (hjo.1 hJ.2).2, hW]
        · rw [h8 hall hJ, whole_no hn hne5 (fun ⟨_, a, b, d⟩ => hJ ⟨a, hjo.2 ⟨b, d⟩⟩)]
      · rw [h8 hall (fun hJ => hform (fun i hi => by have := hJ.2.1 i hi; rwa [dataL_getD _ _ _ _ hi] at this)), whole_no hn hne5 (fun hh => hform (fun i hi => ((hob i hi).1).1 (hh.1 i hi)))]
    · rw [h5 hall]
      have hex : ∃ i, i < s.parts.length ∧ (objE (s.parts.getD i CS.zero)).2 = 5 := Classical.byContradiction (fun hno => hall (fun i hi => Classical.byContradiction (fun hx => hno ⟨i, hi, (open_iff hs hi).2 hx⟩)))
      rw [whole_open (Or.inr hex)]

theorem lack_kn {s : IS} (h : ISok s) {i : Nat} (hi : i < s.parts.length) : lackC s.K (s.parts.getD i CS.zero) = openK (s.parts.getD i CS.zero).kn s.K := by
  unfold lackC
  cases hk : (s.parts.getD i CS.zero).tk with
  | true => rw [if_pos rfl, ((h.part hi).2 hk).1]
  | false => rw [if_neg (by simp), (h.part hi).1.none hk]; exact (openK_kn0 s.K).symm

theorem lacks_same {s : IS} (h : ISok s) (n : Nat) (hn : n ≤ s.parts.length) : lackTo s n = lacksTo s.K (fun j => (s.parts.getD j CS.zero).kn) n := by
  induction n with
  | zero => rfl
  | succ n ih =>
    show lackTo s n + _ = lacksTo s.K _ n + _
    rw [ih (by omega), lack_kn h (by omega)]

theorem olacks_any (p : Nat) (tt : TypeId) (s : IS) (w : World) (hc : ProgInb w p tt s) (hs : ISok s) :
    Calls Tryz.prog 64 #[.pointer (some ⟨p, 0, none⟩)] w fun e w' => e = .returned (.int .i64 (lackE s)) ∧ w' = w := by
  unfold lackE
  by_cases hn : s.parts = []
  · rw [if_pos hn]
    have hz := hs.none hn
    subst hz
    exact llacks_none p tt _ _ _ _ _ _ _ w hc
  · rw [if_neg hn, lacks_same hs s.parts.length (Nat.le_refl _)]
    have hlen : 1 ≤ s.parts.length := by
      rcases Nat.eq_zero_or_pos s.parts.length with h | h
      · exact absurd (List.eq_nil_of_length_eq_zero h) hn
      · exact h
    exact llacks_has p tt s.parts.length s.K s.M s.O s.S s.z _ w ⟨hlen, hs.len⟩ (hs.spec hn).hK.2 hc

end Go.Proofs.YtnjaofkieajnlaaGreat

/- The document's own inbox: Take, of a further sheet, walked. -/
namespace Go.Proofs.YtnjaofkieajnlaaGreat
open Go.RowKit

set_option maxRecDepth 100000 in
set_option maxHeartbeats 8000000 in
theorem rtake_next (x : Nat) (hv : Value) (l : List PD) (s : IS) (t : ByteArray) (w : World) (hd : DocInbox w x hv l s) (hs : ISok s) (h : headOk t) (hp : PacketOk (tQ t)) (hne : s.parts ≠ []) (hsm : rK (tQ t) = s.K ∧ rM (tQ t) = s.M ∧ rO (tQ t) = s.O ∧ rS (tQ t) = s.S ∧ rZ (tQ t) = s.z ∧ tN t = s.parts.length) :
    Calls Tryz.prog 39 #[.pointer (some ⟨x, 0, none⟩), .string t] w fun e w' => e = .returned (.int .i64 (takeE s t)) ∧ ∃ hv' l', DocInbox w' x hv' l' (takeS s t) ∧ Chg (fpI x hv l s) w w' ∧ (∀ k, fpI x hv' l' (takeS s t) k → fpI x hv l s k ∨ w.heap.size ≤ k) := by
  have hbd : ∀ n, Below w.heap.size w (w.drewN n) := fun n => ⟨rfl, rfl, rfl, Nat.le_refl _, fun _ _ => rfl⟩
  have hrd := rread_ok (tQ t) hp
  obtain ⟨ao, cap, hvs⟩ := hd.shape
  have hlen := hd.parts.len
  have hpo : partsOf s t = s.parts := by unfold partsOf; rw [if_neg hne]
  have he := takeE_main h hp (Or.inr hsm)
  have hS : takeS s t = if takeE s t = 0 then ⟨rK (tQ t), rM (tQ t), rO (tQ t), rS (tQ t), rZ (tQ t), (partsOf s t).set (tP t) (hearS ((partsOf s t).getD (tP t) CS.zero) (tQ t))⟩ else s := rfl
  rw [hpo] at he hS
  obtain ⟨h4, e0, n1, n2, n3⟩ := h
  obtain ⟨m1, m2, m3, m4, m5, m6⟩ := hsm
  have hpl : tP t < l.length := by omega
  have hok := (hs.part (i := tP t) (by omega)).1
  have hhr := fun (W : World) (d : PD) (hdc : DocCat W d.r d.b d.av d.pv (s.parts.getD (tP t) CS.zero)) => rhear_any d.r d.b d.av d.pv (s.parts.getD (tP t) CS.zero) (tQ t) W hdc hok
  rw [m1, m2, m3, m4, m5] at hS
  have hS2 : hearE (s.parts.getD (tP t) CS.zero) (tQ t) = 0 → takeS s t = ⟨s.K, s.M, s.O, s.S, s.z, s.parts.set (tP t) (hearS (s.parts.getD (tP t) CS.zero) (tQ t))⟩ := fun e => by rw [hS, he, if_pos e]
  have hS3 : hearE (s.parts.getD (tP t) CS.zero) (tQ t) ≠ 0 → takeS s t = s ∧ hearS (s.parts.getD (tP t) CS.zero) (tQ t) = s.parts.getD (tP t) CS.zero := fun e => ⟨by rw [hS, he, if_neg e], by unfold hearS; rw [if_neg e]⟩
  rw [he]
  unfold ReadSays at hrd
  rw [m1, m2, m3, m4, m5] at hrd
  have htq : tQ t = t.extract 3 t.size := rfl
  rw [htq] at hrd hhr hS2 hS3
  obtain ⟨ee, hee⟩ : ∃ ee, ee = hearE (s.parts.getD (tP t) CS.zero) (t.extract 3 t.size) := ⟨_, rfl⟩
  obtain ⟨c2, hc2⟩ : ∃ c2, c2 = hearS (s.parts.getD (tP t) CS.zero) (t.extract 3 t.size) := ⟨_, rfl⟩
  rw [htq]
  rw [← hee] at hhr hS2 hS3 ⊢
  rw [← hc2] at hhr hS2 hS3
  have HS2 := hide hS2
  have HS3 := hide hS3
  generalize rI (t.extract 3 t.size) = i at *
  generalize rQ (t.extract 3 t.size) = q at *
  have g0 := byteAt_get t 0 (by omega)
  have g1 := byteAt_get t 1 (by omega)
  have g2 := byteAt_get t 2 (by omega)
  have b1 := (byteAt t 1).toNat_lt
  have b2 := (byteAt t 2).toNat_lt
  have i0 : (0 : Int) < (t.size : Int) := by omega
  have i1 : (1 : Int) < (t.size : Int) := by omega
  have i2 : (2 : Int) < (t.size : Int) := by omega
  have i3 : (3 : Int) ≤ (t.size : Int) := by omega
  have l4 : ¬ (t.size : Int) < 4 := by omega
  have h1 : (((byteAt t 0).toNat : Int) != 83) = false := by rw [e0]; rfl
  unfold tN at n1 n2 n3 m6
  unfold tP at n3
  have h2 : ¬ ((byteAt t 2).toNat : Int) < 1 := by omega
  have h3 : ¬ (20 : Int) < ((byteAt t 2).toNat : Int) := by omega
  have h5 : ¬ ((byteAt t 2).toNat : Int) ≤ ((byteAt t 1).toNat : Int) := by omega
  have hln : l.length = (byteAt t 2).toNat := by omega
  have htp : (byteAt t 1).toNat = tP t := rfl
  subst hvs
  have HD := hide hd
  have Hln := hide hln
  have Hlt := hide (And.intro hpl htp)
  clear hpl htp
  clear hp e0 n1 n2 n3 htq hd hs he hS hS2 hS3 hee hc2 m1 m2 m3 m4 m5 m6 hlen hpo hln hne
  go_enter Tryz.func39, Tryz.ntmps39
  go_upto_region 1 with fail
  go_cut [37] (fun s37 wc => s37 = .bool false ∧ ∃ n, wc = w.drewN n)
  case first =>
    go_quiet (fail)
    go_wp2_with fail
    go_meet
    case rel => exact ⟨rfl, _, rfl⟩
  case rest =>
  obtain ⟨rfl, nq, rfl⟩ := hcut
  have hbq := hbd nq
  generalize w.drewN nq = V at *
  clear hbd g0 h1 h2 h3 h5
  go_wp2_with fail
  refine (hrd _).mono ?_
  rintro e w1 ⟨rfl, hb1⟩
  have hbw1 := hbq.trans (hb1.mono hbq.size)
  clear hrd hb1 hbq
  have hbA : Below w.heap.size w (w1.alloc (specB s.K s.M s.O s.S)) := hbw1.alloc hbw1.size _
  have hsA : (w1.alloc (specB s.K s.M s.O s.S)).heap[w1.heap.size]? = some (specB s.K s.M s.O s.S) := heap_alloc_new w1 _
  have hdA := HD.out.on hbA
  obtain ⟨d0, d1, d2, d3, d4, d5⟩ := inb_cells hdA.box
  have hwb := hbw1.size
  rw [Hln.out] at d5
  generalize hln2 : (byteAt t 2).toNat = ln at *
  have hd0 : decide (0 < ln) = true := decide_eq_true (by have := Hlt.out.1; have := Hln.out; omega)
  have hnn : ((ln : Int) != (ln : Int)) = false := by simp
  go_upto_region 8 with fail
  clear hln2 g2
  generalize w1.alloc (specB s.K s.M s.O s.S) = W at *
  obtain ⟨s0, s1, s2, s3⟩ := spec_cells hsA
  go_cut [80] (fun s80 wc => s80 = .bool false ∧ ∃ n, wc = W.drewN n)
  case first =>
    go_quiet (fail)
    go_wp2_with fail
    go_meet
    case rel => exact ⟨rfl, _, rfl⟩
  case rest =>
  obtain ⟨rfl, nq2, rfl⟩ := hcut
  have hdB : DocInbox (W.drewN nq2) x (.slice ao l.length cap) l s := hdA.blocks (fun k _ => rfl)
  have hbB : Below w.heap.size w (W.drewN nq2) := hbA.trans ⟨rfl, rfl, rfl, Nat.le_refl _, fun _ _ => rfl⟩
  have hsB : (W.drewN nq2).heap[w1.heap.size]? = some (specB s.K s.M s.O s.S) := hsA
  generalize W.drewN nq2 = U at *
  clear d0 d1 d2 d3 d4 d5 s0 s1 s2 s3 hdA hbA hsA hd0 hnn
  obtain ⟨g, cap', hve, hg, cp⟩ := hdB.parts.cell Hlt.out.1
  simp only [Value.slice.injEq] at hve
  obtain ⟨rfl, _, rfl⟩ := hve
  have i5 : ¬ (ln : Int) < (ln : Int) := by omega
  go_wp2_with fail
  go_loopw [11] (fun hv11 wr => hv11 = .slice (some ⟨g, 0, none⟩) ln cap ∧ wr = U) (fun _ _ => 0)
  case atStart => exact ⟨rfl, rfl⟩
  case round =>
    obtain ⟨rfl, hwr⟩ := hrel
    subst hwr
    have cp2 : wr.cell? ⟨g, (byteAt t 1).toNat, none⟩ = some (.pointer (some ⟨(l.getD (tP t) PD.no).r, 0, none⟩)) := by rw [Hlt.out.2]; exact cp
    have i6 : ((byteAt t 1).toNat : Int) < (ln : Int) := by have := Hlt.out; have := Hln.out; omega
    have i7 : (0 : Int) ≤ ((byteAt t 1).toNat : Int) := by omega
    have hdc := hdB.parts.each (tP t) Hlt.out.1
    have hdcD : DocCat wr.drew (l.getD (tP t) PD.no).r (l.getD (tP t) PD.no).b (l.getD (tP t) PD.no).av (l.getD (tP t) PD.no).pv (s.parts.getD (tP t) CS.zero) := hdc.blocks (fun k _ => rfl)
    have hgn := hdB.parts.list (k := g) rfl Hlt.out.1
    have hdw := HD.out.parts.each (tP t) Hlt.out.1
    have hfl : ∀ k, fpD (l.getD (tP t) PD.no).r (l.getD (tP t) PD.no).b (l.getD (tP t) PD.no).av (l.getD (tP t) PD.no).pv (s.parts.getD (tP t) CS.zero) k → k < w.heap.size := fun k hk => hdw.lt hk
    have hsl : w1.heap.size < wr.heap.size := (Array.getElem?_eq_some_iff.1 hsB).1
    clear cp
    go_upto_region 12 with fail
    go_region_held3 (fun w' => w'.cell? ⟨g, (byteAt t 1).toNat, none⟩ = some (.pointer (some ⟨(l.getD (tP t) PD.no).r, 0, none⟩)))
      (first | (exact cp2) | (exact j0) | go_keep)
      (first
        | (go_at_call 33; refine (hhr _ (l.getD (tP t) PD.no) (by first | exact hdcD | exact hdc)).mono ?_; rintro e w2 ⟨rfl, b', av', pv', hdc2, hcg2, hnew2⟩; have j0 := (hcg2.cell (a := ⟨g, (byteAt t 1).toNat, none⟩) hg hgn).trans cp2))
    all_goals
      have hcg3 : Chg ((l.getD (tP t) PD.no).fp (s.parts.getD (tP t) CS.zero)) wr w2 := ⟨hcg2.os, hcg2.tape, hcg2.output, hcg2.size, hcg2.block⟩
      obtain ⟨u1, u2, u3⟩ := hdB.parts.update Hlt.out.1 (d := ⟨(l.getD (tP t) PD.no).r, b', av', pv'⟩) (c := c2) hcg3 hdc2 rfl hnew2
      have hs2 : w2.heap[w1.heap.size]? = some (specB s.K s.M s.O s.S) := (hcg3.block _ hsl (fun hk => by have := hfl _ hk; omega)).trans hsB
      have hx2 : w2.heap[x]? = some (inbB s (.slice (some ⟨g, 0, none⟩) l.length cap)) := (hcg3.block x hdB.xlt (fun hk => hdB.parted (Or.inr ⟨tP t, Hlt.out.1, hk⟩))).trans hdB.box
      have hxw := HD.out.xlt
      have hxn : ¬ fpP (.slice (some ⟨g, 0, none⟩) l.length cap) (l.set (tP t) ⟨(l.getD (tP t) PD.no).r, b', av', pv'⟩) (s.parts.set (tP t) c2) x := fun hk => by
        rcases u3 x hk with h | h
        · exact hdB.parted h
        · have := hbB.size
          omega
      have hcw : Chg (fpI x (.slice (some ⟨g, 0, none⟩) l.length cap) l s) w w2 := ((Chg.of_below hbB _).trans u2 (fun k _ hk => Or.inr hk))
      clear hhr hdc hdcD hdc2 hcg2 hcg3 hnew2 j0 cp2 hgn
      by_cases hee : ee = 0
      · have hT := HS2.out hee
        have hfx := inb_store hx2 (.int .i64 (s.K : Int)) (.int .i64 (s.M : Int)) (.int .i64 (s.O : Int)) (.int .i64 (s.S : Int)) (.int .i64 (s.z : Int)) (.slice (some ⟨g, 0, none⟩) ln cap)
        have hff := set6_far w2 x (.int .i64 (s.K : Int)) (.int .i64 (s.M : Int)) (.int .i64 (s.O : Int)) (.int .i64 (s.S : Int)) (.int .i64 (s.z : Int)) (.slice (some ⟨g, 0, none⟩) ln cap)
        have hend : ∃ hv' l', DocInbox ((((((w2.setCell ⟨x, 0, none⟩ (.int .i64 (s.K : Int))).setCell ⟨x, 1, none⟩ (.int .i64 (s.M : Int))).setCell ⟨x, 2, none⟩ (.int .i64 (s.O : Int))).setCell ⟨x, 3, none⟩ (.int .i64 (s.S : Int))).setCell ⟨x, 4, none⟩ (.int .i64 (s.z : Int))).setCell ⟨x, 5, none⟩ (.slice (some ⟨g, 0, none⟩) ln cap)) x hv' l' (takeS s t) ∧ Chg (fpI x (.slice (some ⟨g, 0, none⟩) l.length cap) l s) w ((((((w2.setCell ⟨x, 0, none⟩ (.int .i64 (s.K : Int))).setCell ⟨x, 1, none⟩ (.int .i64 (s.M : Int))).setCell ⟨x, 2, none⟩ (.int .i64 (s.O : Int))).setCell ⟨x, 3, none⟩ (.int .i64 (s.S : Int))).setCell ⟨x, 4, none⟩ (.int .i64 (s.z : Int))).setCell ⟨x, 5, none⟩ (.slice (some ⟨g, 0, none⟩) ln cap)) ∧ (∀ k, fpI x hv' l' (takeS s t) k → fpI x (.slice (some ⟨g, 0, none⟩) l.length cap) l s k ∨ w.heap.size ≤ k) := by
          rw [hT]
          refine ⟨.slice (some ⟨g, 0, none⟩) l.length cap, l.set (tP t) ⟨(l.getD (tP t) PD.no).r, b', av', pv'⟩, ⟨by rw [hfx, Hln.out], u1.blocks (fun k hk => hff k (fun e => hxn (e ▸ hk))), fun e => ?_⟩, ?_, fun k hk => ?_⟩
          · have hq := congrArg List.length (show s.parts.set (tP t) c2 = [] from e)
            rw [List.length_set, ← HD.out.parts.len] at hq
            have hlt := Hlt.out.1
            rw [hq] at hlt
            exact absurd hlt (Nat.not_lt_zero _)
          · exact (((((hcw.setCell (a := ⟨x, 0, none⟩) (Or.inr (Or.inl rfl)) _).setCell (a := ⟨x, 1, none⟩) (Or.inr (Or.inl rfl)) _).setCell (a := ⟨x, 2, none⟩) (Or.inr (Or.inl rfl)) _).setCell (a := ⟨x, 3, none⟩) (Or.inr (Or.inl rfl)) _).setCell (a := ⟨x, 4, none⟩) (Or.inr (Or.inl rfl)) _).setCell (a := ⟨x, 5, none⟩) (Or.inr (Or.inl rfl)) _
          · rcases hk with hk | hk
            · exact Or.inl (Or.inl hk)
            · rcases u3 k hk with h | h
              · exact Or.inl (Or.inr h)
              · right; have := hbB.size; omega
        have Hend := hide hend
        obtain ⟨d0, d1, d2, d3, d4, d5⟩ := inb_cells hx2
        obtain ⟨s0, s1, s2, s3⟩ := spec_cells hs2
        have f0 := found_frozen hx2 0
        have f1 := found_frozen hx2 1
        have f2 := found_frozen hx2 2
        have f3 := found_frozen hx2 3
        have f4 := found_frozen hx2 4
        have f5 := found_frozen hx2 5
        have hxs : w1.heap.size ≠ x := by omega
        subst hee
        clear hend hfx hff hT HS2 HS3 u1 u2 u3 hxn hcw
        go_wp2_with fail
        go_ret
        exact ⟨rfl, Hend.out⟩
      · obtain ⟨hT, hc⟩ := HS3.out hee
        have heb : (ee == 0) = false := beq_eq_false_iff_ne.2 hee
        have hend : ∃ hv' l', DocInbox w2 x hv' l' (takeS s t) ∧ Chg (fpI x (.slice (some ⟨g, 0, none⟩) l.length cap) l s) w w2 ∧ (∀ k, fpI x hv' l' (takeS s t) k → fpI x (.slice (some ⟨g, 0, none⟩) l.length cap) l s k ∨ w.heap.size ≤ k) := by
          rw [hT]
          have hset : s.parts.set (tP t) c2 = s.parts := by
            rw [hc]
            apply List.ext_getElem?
            intro j
            have hpp : tP t < s.parts.length := by rw [← HD.out.parts.len]; exact Hlt.out.1
            by_cases e : tP t = j
            · subst e
              rw [List.getElem?_set_self hpp, List.getD_eq_getElem?_getD, List.getElem?_eq_getElem hpp]; rfl
            · rw [List.getElem?_set_ne e]
          rw [hset] at u1 u3
          refine ⟨.slice (some ⟨g, 0, none⟩) l.length cap, l.set (tP t) ⟨(l.getD (tP t) PD.no).r, b', av', pv'⟩, ⟨hx2, u1, HD.out.nil⟩, hcw, fun k hk => ?_⟩
          rcases hk with hk | hk
          · exact Or.inl (Or.inl hk)
          · rcases u3 k hk with h | h
            · exact Or.inl (Or.inr h)
            · right; have := hbB.size; omega
        have Hend := hide hend
        clear hend hT hc HS2 HS3 u1 u2 u3 hxn hcw hee
        go_wp2_with fail
        go_ret
        exact ⟨rfl, Hend.out⟩

end Go.Proofs.YtnjaofkieajnlaaGreat

/- The document's own inbox: one part more. -/
namespace Go.Proofs.YtnjaofkieajnlaaGreat
open Go.RowKit

theorem ptrsV_append (a b : List PD) : ptrsV (a ++ b) = ptrsV a ++ ptrsV b := by unfold ptrsV; rw [List.map_append]

theorem PartsAt.snoc {w w' : World} {hv : Value} {l : List PD} {cs : List CS} (h : PartsAt w hv l cs) {d : PD} {c : CS} {g cap n : Nat} (hp : DocCat w d.r d.b d.av d.pv c) (hdj : ∀ k, d.fp c k → ¬ fpP hv l cs k) (hg : w.grownBy w' hv.ownBlock) (hown : w'.ownsRow 0 44 1 (.slice (some ⟨g, 0, none⟩) n cap) n (ptrsV (l ++ [d]))) (hl : n = l.length + 1) (hat : hv.ownBlock = some g ∨ w.heap.size ≤ g) :
    PartsAt w' (.slice (some ⟨g, 0, none⟩) n cap) (l ++ [d]) (cs ++ [c]) ∧ (∀ k, fpP (.slice (some ⟨g, 0, none⟩) n cap) (l ++ [d]) (cs ++ [c]) k → fpP hv l cs k ∨ d.fp c k ∨ w.heap.size ≤ k) := by
  subst hl
  have hkeep : ∀ k, k < w.heap.size → hv.ownBlock ≠ some k → w'.heap[k]? = w.heap[k]? := fun k hk h1 => hg.block k hk (fun e => h1 e.symm)
  refine ⟨⟨by rw [List.length_append, List.length_append, h.len]; rfl, ?_, ?_, ?_⟩, ?_⟩
  · rw [List.length_append]; exact hown
  · intro i hi
    rw [List.length_append] at hi
    rw [getD_snocA, getD_snocA, ← h.len]
    by_cases e : i < l.length
    · rw [if_pos e, if_pos e]
      exact (h.each i e).blocks (fun k hk => hkeep k ((h.each i e).lt hk) (fun x => h.list x e hk))
    · rw [if_neg e, if_neg e, if_pos (by simp at hi; omega), if_pos (by simp at hi; omega)]
      exact hp.blocks (fun k hk => hkeep k (hp.lt hk) (fun x => hdj k hk (Or.inl x)))
  · intro i j hi hj hne k hk
    rw [List.length_append] at hi hj
    rw [getD_snocA, getD_snocA, ← h.len] at hk ⊢
    simp at hi hj
    by_cases ei : i < l.length
    · rw [if_pos ei, if_pos ei] at hk
      by_cases ej : j < l.length
      · rw [if_pos ej, if_pos ej]; exact h.apart i j ei ej hne k hk
      · rw [if_neg ej, if_neg ej, if_pos (by omega), if_pos (by omega)]; exact fun hb => hdj k hb (Or.inr ⟨i, ei, hk⟩)
    · rw [if_neg ei, if_neg ei, if_pos (by omega), if_pos (by omega)] at hk
      have ej : j < l.length := by omega
      rw [if_pos ej, if_pos ej]
      exact fun h2 => hdj k hk (Or.inr ⟨j, ej, h2⟩)
  · rintro k (hk | ⟨i, hi, hf⟩)
    · have hgk : g = k := by simpa [Value.ownBlock] using hk
      subst hgk
      rcases hat with e | e
      · exact Or.inl (Or.inl e)
      · exact Or.inr (Or.inr e)
    · rw [List.length_append] at hi
      rw [getD_snocA, getD_snocA, ← h.len] at hf
      by_cases ei : i < l.length
      · rw [if_pos ei, if_pos ei] at hf; exact Or.inl (Or.inr ⟨i, ei, hf⟩)
      · rw [if_neg ei, if_neg ei, if_pos (by simp at hi; omega), if_pos (by simp at hi; omega)] at hf; exact Or.inr (Or.inl hf)

theorem PartsAt.empty (w : World) : PartsAt w (.slice none 0 0) [] [] :=
  ⟨rfl, World.ownsRow_nil _ _ _ _, fun i hi => by simp at hi, fun i j hi => by simp at hi⟩

theorem Tryz.infoPtr : (Tryz.prog.info? 44).map (fun i => (i.zero, i.size, i.bytes)) = some (some (.pointer none), 1, 8) := by kernel_rfl

/-- How long a slice is. -/
def lenP (v : Value) : Nat := match v with
  | .slice _ n _ => n
  | _ => 0

theorem replicate_getD (n p : Nat) : (List.replicate n CS.zero).getD p CS.zero = CS.zero := by
  rw [List.getD_eq_getElem?_getD, List.getElem?_replicate]
  split <;> rfl

end Go.Proofs.YtnjaofkieajnlaaGreat
