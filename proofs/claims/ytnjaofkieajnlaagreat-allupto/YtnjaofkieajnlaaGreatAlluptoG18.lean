/- Texts of the proof, part 19. -/
import Derived.Test.YtnjaofkieajnlaaGreatAlluptoG16
import Derived.Test.YtnjaofkieajnlaaGreatAlluptoG17
import Derived.Test.YtnjaofkieajnlaaGreatAlluptoG7

/- What is a packet: plain facts on bytes. Nothing of the program. -/
namespace Go.Proofs.YtnjaofkieajnlaaGreat

theorem byteAt_left (a b : ByteArray) (i : Nat) (h : i < a.size) : byteAt (a ++ b) i = byteAt a i := by
  have h2 : i < (a ++ b).size := by rw [ByteArray.size_append]; omega
  rw [← byteAt_get _ _ h2, ← byteAt_get _ _ h, ByteArray.getElem_append_left h]

theorem byteAt_right (a b : ByteArray) (i : Nat) (h1 : a.size ≤ i) (h : i < a.size + b.size) : byteAt (a ++ b) i = byteAt b (i - a.size) := by
  have h2 : i < (a ++ b).size := by rw [ByteArray.size_append]; omega
  have h3 : i - a.size < b.size := by omega
  rw [← byteAt_get _ _ h2, ← byteAt_get _ _ h3, ByteArray.getElem_append_right h1]

theorem byteAt_extract (a : ByteArray) (m n i : Nat) (hn : n ≤ a.size) (h : m + i < n) : byteAt (a.extract m n) i = byteAt a (m + i) := by
  have h2 : i < (a.extract m n).size := by rw [ByteArray.size_extract]; omega
  rw [← byteAt_get _ _ h2, ← byteAt_get _ _ (show m + i < a.size by omega), ByteArray.getElem_extract]

/-- What the bytes of a text tell. -/
def rK (p : ByteArray) : Nat := (byteAt p 1).toNat
def rM (p : ByteArray) : Nat := (byteAt p 2).toNat
def rO (p : ByteArray) : Nat := (byteAt p 3).toNat
def rS (p : ByteArray) : Nat := (byteAt p 4).toNat + 256 * (byteAt p 5).toNat
def rZ (p : ByteArray) : Nat := (byteAt p 6).toNat
def rI (p : ByteArray) : Nat := (byteAt p 7).toNat
def rQ (p : ByteArray) : ByteArray := p.extract 8 (p.size - 1)

/-- A text is a packet. -/
def PacketOk (p : ByteArray) : Prop := 10 ≤ p.size ∧ p.size ≤ 25 ∧ byteAt p 0 = 82 ∧ mayB (rK p) (rM p) (rO p) (rS p) = true ∧ rI p < rK p + rM p ∧ p.size = rZ p + 9 ∧ addTo p p.size = 0

theorem addTo_congr (a b : ByteArray) (n : Nat) (h : ∀ i, i < n → byteAt a i = byteAt b i) : addTo a n = addTo b n := by
  induction n with
  | zero => rfl
  | succ n ih =>
    show addTo a n + byteAt a n = addTo b n + byteAt b n
    rw [ih (fun i hi => h i (by omega)), h n (by omega)]

theorem ofNat_byte (b : UInt8) : UInt8.ofNat b.toNat = b := by simp

/-- What is read of a text, without its last byte. -/
theorem packT_byte (p : ByteArray) (hp : 10 ≤ p.size) (h0 : byteAt p 0 = 82) : ∀ i, i < p.size - 1 → byteAt (packT (rK p) (rM p) (rO p) (rS p) (rZ p) (rI p) (rQ p)) i = byteAt p i := by
  intro i hi
  have hs : (ByteArray.mk #[82] ++ headB (rK p) (rM p) (rO p) (rS p) (rZ p) (rI p)).size = 8 := rfl
  have hq : (rQ p).size = p.size - 9 := by unfold rQ; rw [ByteArray.size_extract]; omega
  unfold packT
  by_cases h8 : i < 8
  · rw [byteAt_left _ _ _ (by rw [hs]; exact h8)]
    have e4 : UInt8.ofNat (rS p % 256) = byteAt p 4 := by
      have := (byteAt p 4).toNat_lt
      rw [show rS p % 256 = (byteAt p 4).toNat by unfold rS; omega]; simp
    have e5 : UInt8.ofNat (rS p / 256) = byteAt p 5 := by
      have := (byteAt p 4).toNat_lt
      rw [show rS p / 256 = (byteAt p 5).toNat by unfold rS; omega]; simp
    have hb : ByteArray.mk #[82] ++ headB (rK p) (rM p) (rO p) (rS p) (rZ p) (rI p) = ⟨#[82, byteAt p 1, byteAt p 2, byteAt p 3, byteAt p 4, byteAt p 5, byteAt p 6, byteAt p 7]⟩ := by
      unfold headB rK rM rO rZ rI
      rw [e4, e5, ofNat_byte, ofNat_byte, ofNat_byte, ofNat_byte, ofNat_byte]; rfl
    rw [hb]
    have h8' : i = 0 ∨ i = 1 ∨ i = 2 ∨ i = 3 ∨ i = 4 ∨ i = 5 ∨ i = 6 ∨ i = 7 := by omega
    rcases h8' with rfl | rfl | rfl | rfl | rfl | rfl | rfl | rfl
    · exact h0.symm
    all_goals rfl
  · rw [byteAt_right _ _ _ (by rw [hs]; omega) (by rw [hs, hq]; omega), hs]
    unfold rQ
    rw [byteAt_extract _ _ _ _ (by omega) (by omega)]
    congr 1; omega

theorem add_zero_iff (a b : UInt8) : a + b = 0 ↔ b = 0 - a := by
  have h1 := a.toNat_lt
  have h2 := b.toNat_lt
  constructor
  · intro h
    apply UInt8.toNat_inj.1
    have h3 := congrArg UInt8.toNat h
    rw [UInt8.toNat_add] at h3
    rw [UInt8.toNat_sub]
    simp at h3 ⊢
    omega
  · intro h
    apply UInt8.toNat_inj.1
    have h3 := congrArg UInt8.toNat h
    rw [UInt8.toNat_sub] at h3
    rw [UInt8.toNat_add]
    simp at h3 ⊢
    omega

theorem readsOk_iff (p : ByteArray) (hp : 10 ≤ p.size ∧ p.size ≤ 25) : ReadsOk p (rK p) (rM p) (rO p) (rS p) (rZ p) (rI p) (rQ p) ↔ PacketOk p := by
  have hq : (rQ p).size = p.size - 9 := by unfold rQ; rw [ByteArray.size_extract]; omega
  have hts := packT_size (rK p) (rM p) (rO p) (rS p) (rZ p) (rI p) (rQ p)
  have hsz : (packT (rK p) (rM p) (rO p) (rS p) (rZ p) (rI p) (rQ p)).size = p.size - 1 := by rw [hts, hq]; omega
  have hsum : byteAt p 0 = 82 → (addTo p p.size = 0 ↔ byteAt p (p.size - 1) = chkTo (packT (rK p) (rM p) (rO p) (rS p) (rZ p) (rI p) (rQ p)) (packT (rK p) (rM p) (rO p) (rS p) (rZ p) (rI p) (rQ p)).size) := fun h0 => by
    have hb := packT_byte p hp.1 h0
    rw [chk_add, hsz, addTo_congr _ p _ hb]
    have h1 : addTo p p.size = addTo p (p.size - 1) + byteAt p (p.size - 1) := by
      obtain ⟨n, hn⟩ : ∃ n, p.size = n + 1 := ⟨p.size - 1, by omega⟩
      rw [hn]; rfl
    rw [h1]
    exact add_zero_iff _ _
  constructor
  · rintro ⟨hm, hi, hz, hpk⟩
    have h0 : byteAt p 0 = 82 := by
      rw [← hpk]; unfold packB
      rw [byteAt_left _ _ _ (by rw [hts]; omega)]
      unfold packT
      rw [byteAt_left _ _ _ (by show 0 < 8; omega)]; rfl
    refine ⟨hp.1, hp.2, h0, hm, hi, by omega, (hsum h0).2 ?_⟩
    have h1 : byteAt (packB (rK p) (rM p) (rO p) (rS p) (rZ p) (rI p) (rQ p)) (p.size - 1) = byteAt p (p.size - 1) := by rw [hpk]
    rw [← h1]
    unfold packB
    rw [byteAt_right _ _ _ (by omega) (by rw [hsz]; show p.size - 1 < p.size - 1 + 1; omega), hsz, Nat.sub_self]; rfl
  · rintro ⟨_, _, h0, hm, hi, hz, hs⟩
    refine ⟨hm, hi, by omega, ?_⟩
    have hb := packT_byte p hp.1 h0
    have hl := (hsum h0).1 hs
    rw [hsz] at hl
    unfold packB
    generalize packT (rK p) (rM p) (rO p) (rS p) (rZ p) (rI p) (rQ p) = T at *
    refine bytes_ext (by rw [ByteArray.size_append, hsz]; show p.size - 1 + 1 = p.size; omega) (fun i hi2 => ?_)
    rw [ByteArray.size_append, hsz] at hi2
    have hi3 : i < p.size - 1 + 1 := hi2
    by_cases hlt : i < p.size - 1
    · rw [byteAt_left _ _ _ (by omega)]; exact hb i hlt
    · have : i = p.size - 1 := by omega
      subst this
      rw [byteAt_right _ _ _ (by omega) (by rw [hsz]; show p.size - 1 < p.size - 1 + 1; omega), hsz, Nat.sub_self, hl]; rfl

end Go.Proofs.YtnjaofkieajnlaaGreat

/- The program's catcher: its data and its object. -/
namespace Go.Proofs.YtnjaofkieajnlaaGreat
open Go.RowKit

/-- The first texts that are told, joined. -/
def joinTo (F : Nat → ByteArray × Bool) : Nat → ByteArray
  | 0 => ByteArray.empty
  | i + 1 => joinTo F i ++ (F i).1

theorem gotTo_getD (F : Nat → ByteArray × Bool) (n i : Nat) (h : i < n) : (gotTo F n).getD i ByteArray.empty = (F i).1 := by
  induction n with
  | zero => omega
  | succ n ih =>
    show (gotTo F n ++ [(F n).1]).getD i ByteArray.empty = _
    rw [List.getD_eq_getElem?_getD]
    by_cases e : i < n
    · rw [List.getElem?_append_left (by rw [gotTo_length]; exact e), ← List.getD_eq_getElem?_getD]; exact ih e
    · have : i = n := by omega
      subst this
      rw [List.getElem?_append_right (by rw [gotTo_length]; exact Nat.le_refl _), gotTo_length, Nat.sub_self]; rfl

theorem joinTo_cat (F : Nat → ByteArray × Bool) (n i : Nat) (h : i ≤ n) : catTo (gotTo F n) i = joinTo F i := by
  induction i with
  | zero => rfl
  | succ i ih =>
    show catTo (gotTo F n) i ++ (gotTo F n).getD i ByteArray.empty = joinTo F i ++ (F i).1
    rw [ih (by omega), gotTo_getD F n i (by omega)]

theorem joinTo_size (F : Nat → ByteArray × Bool) (z : Nat) (h : ∀ i, (F i).1.size = z) (i : Nat) : (joinTo F i).size = i * z := by
  induction i with
  | zero => simp [joinTo]
  | succ i ih =>
    show (joinTo F i ++ (F i).1).size = _
    rw [ByteArray.size_append, ih, h, Nat.succ_mul]

set_option maxRecDepth 100000 in
set_option maxHeartbeats 4000000 in
theorem qdata_any (p o Ln : Nat) (tt : TypeId) (hh : Nat → Value) (K n z : Nat) (of : Nat → Nat) (kn : Kn) (F : Nat → ByteArray × Bool) (w : World) (hK : 1 ≤ K ∧ K ≤ 20) (hkn : KnOk K z kn) (hof : ∀ i, of i < 2 ^ K) (hz : 1 ≤ z ∧ z ≤ 16) (hn : n ≤ 40) (hKn : K ≤ n) (hbox : BoxOff w p o Ln tt hh K n z of kn)
    (hF : ∀ i, i < K → ((F i).2 = true ↔ (left kn (of i) (zeroB z)).1 = 0)) (hF1 : ∀ i, i < K → (F i).1 = (left kn (of i) (zeroB z)).2) (hFs : ∀ i, (F i).1.size = z) :
    Calls Tryz.prog 95 #[.pointer (some ⟨p, o, none⟩)] w fun e w' => (((∀ j, j < K → (F j).2 = true) → e = .returned (.tuple #[.string (joinTo F K), .int .i64 0])) ∧ (¬ (∀ j, j < K → (F j).2 = true) → e = .returned (.tuple #[.string ⟨#[]⟩, .int .i64 5]))) ∧ Below w.heap.size w w' := by
  obtain ⟨i0, hi0, hz0, hz1, hz2⟩ := info_parts Tryz.infoByte
  have hmk : ∀ w, (Instr.makeSlice 106 (.int .i64 0) (.int .i64 320)).run Tryz.prog w = .ok (.slice (some ⟨w.heap.size, 0, none⟩) 0 320) (w.alloc (.cells (madeCells #[.int .u8 0] 320) 5)) := run_make_byteRow 320 (by omega)
  have hge : ∀ wr, Below w.heap.size w wr → ∀ i, i < K → Calls Tryz.prog 55 #[.pointer (some ⟨p, o, none⟩), .int .i64 (i : Int)] wr fun e w' => e = .returned (.tuple (if (F i).2 = true then #[.string (F i).1, .int .i64 0] else #[.string ⟨#[]⟩, .int .i64 5])) ∧ Below wr.heap.size wr w' := fun wr hb i hi => by
    have h1 := qget_ok p o Ln tt hh K n z i of kn wr hK.2 hkn hof (by omega) hn (by omega) (hbox.on (Nat.le_refl _) hb)
    rw [← hF1 i hi] at h1
    simp only [← hF i hi] at h1
    exact h1
  have hcell : ∀ wr, Below w.heap.size w wr → wr.cell? ⟨p, o, none⟩ = some (.int .i64 (K : Int)) := fun wr hb => (hbox.on (Nat.le_refl _) hb).head.1
  have hsz := joinTo_size F z hFs
  have hown : (w.alloc (.cells (madeCells #[.int .u8 0] 320) 5)).ownsRow w.heap.size 5 1 (.slice (some ⟨w.heap.size, 0, none⟩) 0 320) 0 (bytesV (joinTo F 0)) := by
    have := World.ownsRow_made (base := w.heap.size) (e := 5) (size := 1) w (madeCells #[.int .u8 0] 320) 320 (by simp) (by unfold maxLen; omega) (by simp [size_madeCells])
    have e0 : bytesV (joinTo F 0) = [] := rfl
    rw [e0]
    simpa using this
  have hpl := hbox.lt
  have hbA : Below w.heap.size w (w.alloc (.cells (madeCells #[.int .u8 0] 320) 5)) := (Below.refl _ _).alloc (Nat.le_refl _) _
  clear hbox hkn hof hF hF1
  go_enter Tryz.func95, Tryz.ntmps95
  go_wp2_with fail
  go_loopw [4, 5] (fun dv t wr => ∃ i : Nat, i ≤ K ∧ t = .int .i64 i ∧ wr.ownsRow w.heap.size 5 1 dv (joinTo F i).size (bytesV (joinTo F i)) ∧ (∀ j, j < i → (F j).2 = true) ∧ Below w.heap.size w wr) (fun _ t _ => K - (intOf t).toNat)
  case atStart => exact ⟨0, Nat.zero_le _, rfl, hown, fun j hj => absurd hj (Nat.not_lt_zero _), hbA⟩
  case round =>
    clear hown hbA hmk
    obtain ⟨i, hiK, rfl, hown, hall, hbr⟩ := hrel
    have Hall := hide hall
    have hwr := hbr.size
    have c0 := hcell wr hbr
    have hszi := hsz i
    have hzi : i * z ≤ 320 := Nat.le_trans (Nat.mul_le_mul (Nat.le_trans hiK hK.2) hz.2) (by decide)
    have hJ : (joinTo F i).size ≤ 320 := by omega
    clear hall hszi
    by_cases hlt : i < K
    · have hg := hge wr hbr i hlt
      have hgt : joinTo F (i + 1) = joinTo F i ++ (F i).1 := rfl
      have Hgt := hide hgt
      have hFi : (F i).1.size ≤ 16 := by rw [hFs i]; omega
      clear hgt
      cases hk : (F i).2 with
      | false =>
        rw [hk, if_neg (by simp)] at hg
        have hno : ¬ (∀ j, j < K → (F j).2 = true) := fun h => by rw [h i hlt] at hk; cases hk
        have Hno := hide hno
        clear hk hno
        go_wp2_with fail
        refine hg.mono ?_
        rintro e w4 ⟨rfl, hb4⟩
        have hbr4 := hbr.trans (hb4.mono hbr.size)
        clear hb4 hown hbr hg c0
        go_wp2_with fail
        go_ret2
        exact ⟨⟨fun h => absurd h Hno.out, fun _ => rfl⟩, hbr4⟩
      | true =>
        rw [hk, if_pos rfl] at hg
        have Hk := hide hk
        clear hk
        generalize hq : (F i).1 = q at *
        clear hq
        generalize hJi : joinTo F i = J at *
        go_wp2_with fail
        refine hg.mono ?_
        rintro e w4 ⟨rfl, hb4⟩
        have hown4 := owns_below hown hb4
        have hbr4 := hbr.trans (hb4.mono hbr.size)
        have hw4 := hbr4.size
        clear hb4 hown hbr hg c0
        go_wp2_with (at_builtin; refine Go.Lib.wpList_append_own_string _ rfl (.tmp 26) (.tmp 27) 106 9 rfl w.heap.size 5 i0 Tryz.underlying106 Tryz.underlying9 hi0 hz0 hz1 hz2 _ _ _ rfl hown4 q rfl (by unfold maxLen; omega) (by omega) (by omega) ?_)
        intro v5 w5 hown5 hgr5 _
        have hb5 : Below w.heap.size w w5 := hbr4.grown hgr5 hbr4.size (fun k e => (hown4.lt k e).1)
        rw [bytesV_str, ← bytesV_app] at hown5
        clear hown4 hbr4 hgr5
        go_wp2_with fail
        go_roundw
        case rel =>
          refine ⟨i + 1, by omega, by go_num, by rw [Hgt.out, ByteArray.size_append]; exact hown5, fun j hj => ?_, hb5⟩
          by_cases e : j = i
          · subst e; exact Hk.out
          · exact Hall.out j (by omega)
        case measure => simp [intOf]; omega
    · have hii : i = K := by omega
      subst hii
      have hpos : 0 < i * z := Nat.mul_pos (by omega) (by omega)
      have hcv := conv_own (joinTo F i) _ _ _ wr hown rfl (by rw [hsz i]; omega)
      obtain ⟨J, hJe⟩ : ∃ J, J = joinTo F i := ⟨_, rfl⟩
      rw [← hJe] at hcv
      have HJ := hide hJe
      clear hown hge hcell hJe hJ
      go_wp2_with fail
      go_ret2
      exact ⟨⟨fun _ => by rw [← HJ.out]; rfl, fun h => absurd Hall.out h⟩, hbr⟩

theorem zero_iff (t : ByteArray) (m : Nat) (hm : m ≤ t.size) : t.extract m t.size = zeroB (t.size - m) ↔ ∀ i, m ≤ i → i < t.size → byteAt t i = 0 := by
  have hs : (t.extract m t.size).size = t.size - m := by rw [ByteArray.size_extract]; omega
  constructor
  · intro h i h1 h2
    have := byteAt_extract t m t.size (i - m) (Nat.le_refl _) (by omega)
    rw [h, byteAt_zeroB, show m + (i - m) = i by omega] at this
    exact this.symm
  · intro h
    refine bytes_ext (by rw [hs, zeroB_size]) (fun i hi => ?_)
    rw [hs] at hi
    rw [byteAt_zeroB, byteAt_extract t m t.size i (Nat.le_refl _) (by omega)]
    exact h (m + i) (by omega) (by omega)

set_option maxRecDepth 100000 in
set_option maxHeartbeats 4000000 in
theorem oread_any (t : ByteArray) (w : World) (hts : t.size ≤ 1000) :
    Calls Tryz.prog 96 #[.string t] w fun e w' => ((objOk t = true → e = .returned (.tuple #[.string (objText t), .int .i64 0])) ∧ (objOk t = false → e = .returned (.tuple #[.string ⟨#[]⟩, .int .i64 8]))) ∧ Below w.heap.size w w' := by
  have hbd : ∀ n, Below w.heap.size w (w.drewN n) := fun n => ⟨rfl, rfl, rfl, Nat.le_refl _, fun _ _ => rfl⟩
  by_cases h2 : t.size < 2
  · have hok : objOk t = false := by unfold objOk; rw [if_neg (by omega)]
    have Hok := hide hok
    have hl : (t.size : Int) < 2 := by omega
    clear hok
    go_enter Tryz.func96, Tryz.ntmps96
    go_wp2_with fail
    go_ret2
    exact ⟨⟨fun h => (by rw [Hok.out] at h; cases h), fun _ => rfl⟩, Below.refl _ _⟩
  · have g0 := byteAt_get t 0 (by omega)
    have g1 := byteAt_get t 1 (by omega)
    have b0 := (byteAt t 0).toNat_lt
    have b1 := (byteAt t 1).toNat_lt
    have i0 : (0 : Int) < (t.size : Int) := by omega
    have i1 : (1 : Int) < (t.size : Int) := by omega
    have hl : ¬ (t.size : Int) < 2 := by omega
    obtain ⟨L, hL⟩ : ∃ L, L = objLen t := ⟨_, rfl⟩
    have hL2 : ((2 : Int) + ((byteAt t 0).toNat : Int)) + 256 * ((byteAt t 1).toNat : Int) = ((2 + L : Nat) : Int) := by rw [hL]; unfold objLen; omega
    have hLb : L ≤ 65535 := by rw [hL]; unfold objLen; omega
    have HL := hide hL
    have HL2 := hide hL2
    clear hL hL2
    go_enter Tryz.func96, Tryz.ntmps96
    go_upto_region 3 with fail
    go_cut [4] (fun s4 wc => s4 = .int .i64 ((2 + L : Nat) : Int) ∧ ∃ n, wc = w.drewN n)
    case first =>
      go_quiet (fail)
      go_wp2_with fail
      go_meet
      case rel => exact ⟨by rw [← HL2.out], _, rfl⟩
    case rest =>
    obtain ⟨rfl, nq, rfl⟩ := hcut
    clear g0 g1 b0 b1
    have hbW := hbd nq
    generalize w.drewN nq = W at *
    clear hbd
    by_cases hle : L + 2 ≤ t.size
    · have hle2 : ¬ (t.size : Int) < ((2 + L : Nat) : Int) := by omega
      have hiff := zero_iff t (2 + L) (by omega)
      have hok : objOk t = decide (t.extract (2 + L) t.size = zeroB (t.size - (2 + L))) := by unfold objOk; rw [← HL.out, if_pos hle]
      have htx : objText t = t.extract 2 (2 + L) := by unfold objText; rw [← HL.out, if_pos hle]
      have Hiff := hide hiff
      have Hok := hide hok
      have Htx := hide htx
      clear hiff hok htx
      go_wp2_with fail
      go_loop [5] (fun iv => ∃ i : Nat, 2 + L ≤ i ∧ i ≤ t.size ∧ iv = .int .i64 (i : Int) ∧ ∀ j, 2 + L ≤ j → j < i → byteAt t j = 0) (fun iv => t.size - (intOf iv).toNat)
      case atStart => exact ⟨2 + L, Nat.le_refl _, by omega, rfl, fun j h1 h2 => absurd h2 (by omega)⟩
      case round =>
        obtain ⟨i, hi1, hi2, rfl, hall⟩ := hrel
        have Hall := hide hall
        clear hall
        by_cases hlt : i < t.size
        · have gi := byteAt_get t i hlt
          have j1 : (0 : Int) ≤ (i : Int) := by omega
          have j2 : (i : Int) < (t.size : Int) := by omega
          by_cases hz : byteAt t i = 0
          · have hb : (((byteAt t i).toNat : Int) != 0) = false := by rw [hz]; rfl
            have Hz := hide hz
            clear hz
            go_wp2_with fail
            go_round
            case rel =>
              refine ⟨i + 1, by omega, by omega, by go_num, fun j h1 h2 => ?_⟩
              by_cases e : j = i
              · subst e; exact Hz.out
              · exact Hall.out j h1 (by omega)
            case measure => simp [intOf]; omega
          · have hb : (((byteAt t i).toNat : Int) != 0) = true := by
              simp only [bne_iff_ne, ne_eq]
              intro e
              exact hz (UInt8.toNat_inj.1 (by show (byteAt t i).toNat = 0; omega))
            have hno : objOk t = false := by
              rw [Hok.out]
              exact decide_eq_false (fun h => hz (Hiff.out.1 h i hi1 hlt))
            have Hno := hide hno
            clear hz hno
            go_wp2_with fail
            go_ret2
            exact ⟨⟨fun h => (by rw [Hno.out] at h; cases h), fun _ => rfl⟩, hbW⟩
        · have hii : i = t.size := by omega
          have hyes : objOk t = true := by
            rw [Hok.out]
            exact decide_eq_true (Hiff.out.2 (fun j h1 h2 => Hall.out j h1 (by omega)))
          have Hyes := hide hyes
          have k1 : ¬ (i : Int) < (t.size : Int) := by omega
          have k2 : (2 : Int) ≤ ((2 + L : Nat) : Int) := by omega
          have k3 : ((2 + L : Nat) : Int) ≤ (t.size : Int) := by omega
          clear hyes hii
          go_wp2_with fail
          go_ret2
          exact ⟨⟨fun _ => by rw [Htx.out, show 2 + L = ((2 : Int) + (L : Int)).toNat by omega]; rfl, fun h => (by rw [Hyes.out] at h; cases h)⟩, hbW⟩
    · have hle2 : (t.size : Int) < ((2 + L : Nat) : Int) := by omega
      have hok : objOk t = false := by unfold objOk; rw [← HL.out, if_neg hle]
      have Hok := hide hok
      clear hok
      go_wp2_with fail
      go_ret2
      exact ⟨⟨fun h => (by rw [Hok.out] at h; cases h), fun _ => rfl⟩, hbW⟩

end Go.Proofs.YtnjaofkieajnlaaGreat

/- The document's own read: texts too short or too long. -/
namespace Go.Proofs.YtnjaofkieajnlaaGreat
open Go.RowKit

set_option maxRecDepth 100000 in
set_option maxHeartbeats 8000000 in
theorem rread_short (p : ByteArray) (w : World) (hp : (p.size : Int) < 10 ∨ (10 ≤ (p.size : Int) ∧ 25 < (p.size : Int))) :
    Calls Tryz.prog 59 #[.string p] w fun e w' => e = .returned (.tuple #[specV 0 0 0 0, .int .i64 0, .int .i64 0, .string ByteArray.empty, .bool false]) ∧ Below w.heap.size w w' := by
  have hbA : Below w.heap.size w (w.alloc (.cells #[.int .i64 0, .int .i64 0, .int .i64 0, .int .i64 0] 25)) := (Below.refl _ _).alloc (Nat.le_refl _) _
  have hres : (w.alloc (.cells #[.int .i64 0, .int .i64 0, .int .i64 0, .int .i64 0] 25)).heap[w.heap.size]? = some (.cells #[.int .i64 0, .int .i64 0, .int .i64 0, .int .i64 0] 25 (0, 0)) := heap_alloc_new w _
  have hone := spec_one 0 0 0 0
  have hf1 := setRow_heap _ _ _ #[.int .i64 0, .int .i64 0, .int .i64 0, .int .i64 0] _ _ hres
  have hf2 : Below w.heap.size w ((w.alloc (.cells #[.int .i64 0, .int .i64 0, .int .i64 0, .int .i64 0] 25)).setRow w.heap.size #[.int .i64 0, .int .i64 0, .int .i64 0, .int .i64 0]) := ((Chg.of_below hbA (fun _ => False)).setRow (Or.inl (Nat.le_refl _)) _).below (fun _ _ f => f)
  have Hf1 := hide hf1
  have Hf2 := hide hf2
  have Hres := hide hres
  clear hf1 hf2 hbA hres
  rcases hp with hp | ⟨hp, hp2⟩
  all_goals
    go_enter Tryz.func59, Tryz.ntmps59
    go_wp2_with (first | (refine wpList_store_row rfl 25 (.tmp 2) (.tmp 21) rfl w.heap.size #[.int .i64 0, .int .i64 0, .int .i64 0, .int .i64 0] rfl rfl 25 #[.int .i64 0, .int .i64 0, .int .i64 0, .int .i64 0] Hres.out Tryz.sizeSpecR rfl hone ?_))
    exact bodyPost_ret (results_read _ _ w.heap.size 0 0 0 0 _ rfl Hf1.out) rfl ⟨rfl, Hf2.out⟩

end Go.Proofs.YtnjaofkieajnlaaGreat

/- The document's own Hear: no packet. -/
namespace Go.Proofs.YtnjaofkieajnlaaGreat
open Go.RowKit

set_option maxRecDepth 100000 in
set_option maxHeartbeats 4000000 in
theorem rhear_none (c : Value) (p : ByteArray) (w : World) (hrd : ∀ W, Calls Tryz.prog 59 #[.string p] W fun e w' => (∃ (a1 a2 a3 a4 b c : Int) (d : ByteArray), e = .returned (.tuple #[specV a1 a2 a3 a4, .int .i64 b, .int .i64 c, .string d, .bool false])) ∧ Below W.heap.size W w') :
    Calls Tryz.prog 33 #[c, .string p] w fun e w' => e = .returned (.int .i64 6) ∧ Below w.heap.size w w' := by
  go_enter Tryz.func33, Tryz.ntmps33
  go_wp2_with fail
  refine (hrd _).mono ?_
  rintro e w1 ⟨⟨a1, a2, a3, a4, b, c', d, rfl⟩, hb1⟩
  have hbf := hb1.alloc hb1.size (.cells #[.int .i64 a1, .int .i64 a2, .int .i64 a3, .int .i64 a4] 25)
  go_wp2_with fail
  go_ret
  exact ⟨rfl, hbf⟩

end Go.Proofs.YtnjaofkieajnlaaGreat

/- The document's own Hear: the first packet. -/
namespace Go.Proofs.YtnjaofkieajnlaaGreat
open Go.RowKit

/-- What read answers to a packet. -/
def ReadSays (p : ByteArray) (K M O S z i : Nat) (q : ByteArray) : Prop := ∀ W, Calls Tryz.prog 59 #[.string p] W fun e w' => e = .returned (.tuple #[specV K M O S, .int .i64 (z : Int), .int .i64 (i : Int), .string q, .bool true]) ∧ Below W.heap.size W w'

set_option maxRecDepth 100000 in
set_option maxHeartbeats 4000000 in
theorem rhear_first (c K M O S z i : Nat) (p q : ByteArray) (w : World) (hrd : ReadSays p K M O S z i q) (hc : w.heap[c]? = some (catB none)) (hK : 1 ≤ K ∧ K ≤ 20) (hM : 1 ≤ M ∧ M ≤ 20) (hO : 1 ≤ O ∧ O ≤ M) (hS : S ≤ 65535) (hz : 0 < z ∧ z ≤ 1000) (hi : i < K + M) (hq : q.size = z) (htd : (told (boxFacts K M O S z []) (2 ^ i) z).2 = false) :
    Calls Tryz.prog 33 #[.pointer (some ⟨c, 0, none⟩), .string p] w fun e w' => e = .returned (.int .i64 0) ∧ ∃ r av pv, w.heap.size ≤ r ∧ w'.heap[c]? = some (catB (some ⟨r, 0, none⟩)) ∧ RBoxAt w' r K M O S z av pv [(i, q)] ∧ Chg (fun k => k = c) w w' ∧ (∀ k, fpR r av pv k → w.heap.size ≤ k) := by
  have hput := fun W r hb => rput_new r K M O S z i q (.slice none 0 0) (.slice none 0 0) [] W hK hM hO hS hz hb (Nat.zero_le _) (fun x hx => absurd hx (by simp)) hi hq htd
  clear htd
  go_enter Tryz.func33, Tryz.ntmps33
  go_wp2_with fail
  refine (hrd _).mono ?_
  rintro e w1 ⟨rfl, hb1⟩
  have hc1 := block_on hc hb1
  have hcl : c < w.heap.size := (Array.getElem?_eq_some_iff.1 hc).1
  go_upto_region 5 with fail
  have hbW : Below w1.heap.size w1 ((w1.alloc (specB K M O S)).alloc (rboxB K M O S z (.slice none 0 0) (.slice none 0 0))) := ((Below.refl _ _).alloc (Nat.le_refl _) _).alloc (by simp) _
  have hcW := block_on hc1 hbW
  have hbx : ((w1.alloc (specB K M O S)).alloc (rboxB K M O S z (.slice none 0 0) (.slice none 0 0))).heap[w1.heap.size + 1]? = some (rboxB K M O S z (.slice none 0 0) (.slice none 0 0)) := heap_alloc2_new w1 _ _
  have hww : Below w.heap.size w ((w1.alloc (specB K M O S)).alloc (rboxB K M O S z (.slice none 0 0) (.slice none 0 0))) := hb1.trans (hbW.mono hb1.size)
  have hrr : w.heap.size ≤ w1.heap.size + 1 := by have := hb1.size; omega
  generalize (w1.alloc (specB K M O S)).alloc (rboxB K M O S z (.slice none 0 0) (.slice none 0 0)) = W at *
  generalize w1.heap.size + 1 = r at *
  clear hbW hc1 hc hb1
  have c0 := cat_cell hcW
  go_wp2_with fail
  refine (hput _ r ⟨hbx, World.ownsRow_nil _ _ _ _, World.ownsRow_nil _ _ _ _⟩).mono ?_
  rintro e w2 ⟨rfl, av, pv, hb2, hcg, hnew⟩
  have hcn : ∀ k, fpR r (.slice none 0 0) (.slice none 0 0) k → k = r := fun k hk => by
    rcases hk with hk | hk | hk
    · exact hk
    · simp [Value.ownBlock] at hk
    · simp [Value.ownBlock] at hk
  have hc2 : w2.heap[c]? = some (catB none) := by
    rw [hcg.block c (by have := hww.size; omega) (fun h => by have := hcn c h; omega)]; exact hcW
  have c2 := cat_cell hc2
  have x2 := found_frozen hc2 0
  clear c0 hput hbx hcW
  have hfp : ∀ k, fpR r av pv k → w.heap.size ≤ k := fun k hk => by
    rcases hnew k hk with h | h
    · have := hcn k h; omega
    · have := hww.size; omega
  have hbw : Below w.heap.size w w2 := ⟨hcg.os.trans hww.os, hcg.tape.trans hww.tape, hcg.output.trans hww.output, Nat.le_trans hww.size hcg.size, fun k hk => (hcg.block k (Nat.lt_of_lt_of_le hk hww.size) (fun s => by have := hcn k s; omega)).trans (hww.block k hk)⟩
  have hbf : RBoxAt (w2.setCell ⟨c, 0, none⟩ (.pointer (some ⟨r, 0, none⟩))) r K M O S z av pv [(i, q)] :=
    ⟨by rw [Below.heap_setCell _ _ _ _ (by show r ≠ c; omega)]; exact hb2.box,
      owns_of_block hb2.oa (fun k hk => Below.heap_setCell _ _ _ _ (by have := hfp k (Or.inr (Or.inl hk)); show k ≠ c; omega)),
      owns_of_block hb2.op (fun k hk => Below.heap_setCell _ _ _ _ (by have := hfp k (Or.inr (Or.inr hk)); show k ≠ c; omega))⟩
  have hcf := (Chg.of_below hbw (fun k => k = c)).setCell (a := ⟨c, 0, none⟩) (Or.inr rfl) (.pointer (some ⟨r, 0, none⟩))
  have hhf := heap_setCell_same w2 c 0 _ _ (.pointer (some ⟨r, 0, none⟩)) hc2
  have HF := hide (And.intro hhf (And.intro hbf (And.intro hcf hfp)))
  clear hhf hbf hcf hfp hbw hww hb2 hcg hnew hcn
  go_wp2_with fail
  go_ret
  exact ⟨rfl, r, av, pv, hrr, HF.out.1, HF.out.2.1, HF.out.2.2.1, HF.out.2.2.2⟩

end Go.Proofs.YtnjaofkieajnlaaGreat

/- What both reads answer: the program's and the document's. -/
namespace Go.Proofs.YtnjaofkieajnlaaGreat
open Go.RowKit

theorem PacketOk.has {p : ByteArray} (h : PacketOk p) : (1 ≤ rK p ∧ rK p ≤ 20) ∧ (1 ≤ rM p ∧ rM p ≤ 20) ∧ (1 ≤ rO p ∧ rO p ≤ rM p) ∧ rS p ≤ 65535 ∧ (1 ≤ rZ p ∧ rZ p ≤ 16) ∧ rI p < rK p + rM p ∧ (rQ p).size = rZ p := by
  obtain ⟨h1, h2, _, hm, hi, hs, _⟩ := h
  have := mayB_true hm
  refine ⟨by omega, by omega, by omega, by omega, by omega, hi, ?_⟩
  unfold rQ
  rw [ByteArray.size_extract]
  omega

theorem pread_ok (p : ByteArray) (w : World) (h : PacketOk p) :
    Calls Tryz.prog 91 #[.string p] w fun e w' => e = .returned (.tuple #[.agg (pkC (rK p) (rM p) (rO p) (rS p) (rZ p) (rI p) (rQ p)), .bool true]) ∧ Below w.heap.size w w' := by
  obtain ⟨h1, h2, h0, hm, hi, hs, ha⟩ := h
  have hq : p.extract 8 (8 + rZ p) = rQ p := by unfold rQ; rw [show 8 + rZ p = p.size - 1 by omega]
  refine (pread_walk p (rK p) (rM p) (rO p) (rS p) (rZ p) (rI p) w (by omega) h0 rfl rfl rfl rfl rfl rfl).mono fun e w' h => ⟨?_, h.2⟩
  rw [h.1.1 ⟨hm, by omega, by omega, hi, hs, ha⟩, hq]

theorem pread_no (p : ByteArray) (w : World) (h : ¬ PacketOk p) :
    Calls Tryz.prog 91 #[.string p] w fun e w' => e = .returned (.tuple #[.agg pk0, .bool false]) ∧ Below w.heap.size w w' := by
  by_cases h8 : p.size < 8
  · exact pread_short p w (Or.inl (by omega))
  · by_cases h0 : byteAt p 0 = 82
    · refine (pread_walk p (rK p) (rM p) (rO p) (rS p) (rZ p) (rI p) w (by omega) h0 rfl rfl rfl rfl rfl rfl).mono fun e w' hh => ⟨?_, hh.2⟩
      exact hh.1.2 (fun ⟨a, b, c, d, f, g⟩ => h ⟨by omega, by omega, h0, a, d, f, g⟩)
    · exact pread_short p w (Or.inr ⟨by omega, h0⟩)

theorem rread_ok (p : ByteArray) (h : PacketOk p) : ReadSays p (rK p) (rM p) (rO p) (rS p) (rZ p) (rI p) (rQ p) := fun W => by
  have hp : 10 ≤ p.size ∧ p.size ≤ 25 := ⟨h.1, h.2.1⟩
  exact (rread_walk p (rQ p) (rK p) (rM p) (rO p) (rS p) (rZ p) (rI p) W hp rfl rfl rfl rfl rfl rfl rfl).mono fun e w' hh => ⟨hh.1.1 ((readsOk_iff p hp).2 h), hh.2⟩

theorem rread_no (p : ByteArray) (h : ¬ PacketOk p) (W : World) : Calls Tryz.prog 59 #[.string p] W fun e w' => (∃ (a1 a2 a3 a4 b c : Int) (d : ByteArray), e = .returned (.tuple #[specV a1 a2 a3 a4, .int .i64 b, .int .i64 c, .string d, .bool false])) ∧ Below W.heap.size W w' := by
  by_cases hp : 10 ≤ p.size ∧ p.size ≤ 25
  · exact (rread_walk p (rQ p) (rK p) (rM p) (rO p) (rS p) (rZ p) (rI p) W hp rfl rfl rfl rfl rfl rfl rfl).mono fun e w' hh => ⟨hh.1.2 (fun x => h ((readsOk_iff p hp).1 x)), hh.2⟩
  · exact (rread_short p W (by omega)).mono fun e w' hh => ⟨⟨0, 0, 0, 0, 0, 0, _, hh.1⟩, hh.2⟩

end Go.Proofs.YtnjaofkieajnlaaGreat

/- The program's catcher: Object; Hear of further packets. -/
namespace Go.Proofs.YtnjaofkieajnlaaGreat
open Go.RowKit

set_option maxRecDepth 100000 in
set_option maxHeartbeats 4000000 in
theorem pobj_none (p o Ln : Nat) (tt : TypeId) (hh : Nat → Value) (w : World) (hc : CatNone w p o Ln tt hh) :
    Calls Tryz.prog 61 #[.pointer (some ⟨p, o, none⟩)] w fun e w' => e = .returned (.tuple #[.string ⟨#[]⟩, .int .i64 5]) ∧ w' = w := by
  obtain ⟨c0, _⟩ := hc.head
  clear hc
  go_enter Tryz.func61, Tryz.ntmps61
  go_wp2_with fail
  go_ret2
  exact ⟨rfl, rfl⟩

set_option maxRecDepth 100000 in
set_option maxHeartbeats 4000000 in
theorem pobj_has (p o Ln : Nat) (tt : TypeId) (hh : Nat → Value) (K M O S z : Nat) (kn : Kn) (F : Nat → ByteArray × Bool) (T : ByteArray) (w : World) (hK : 1 ≤ K ∧ K ≤ 20) (hM : M ≤ 20) (hkn : KnOk K z kn) (hz : 1 ≤ z ∧ z ≤ 16) (hc : CatHas w p o Ln tt hh K M O S z kn)
    (hF : ∀ i, i < K → ((F i).2 = true ↔ (left kn (ofs K M O S i) (zeroB z)).1 = 0)) (hF1 : ∀ i, i < K → (F i).1 = (left kn (ofs K M O S i) (zeroB z)).2) (hFs : ∀ i, (F i).1.size = z) (hT : T = joinTo F K) :
    Calls Tryz.prog 61 #[.pointer (some ⟨p, o, none⟩)] w fun e w' => (((∀ j, j < K → (F j).2 = true) → objOk T = true → e = .returned (.tuple #[.string (objText T), .int .i64 0])) ∧ ((∀ j, j < K → (F j).2 = true) → objOk T = false → e = .returned (.tuple #[.string ⟨#[]⟩, .int .i64 8])) ∧ (¬ (∀ j, j < K → (F j).2 = true) → e = .returned (.tuple #[.string ⟨#[]⟩, .int .i64 5]))) ∧ Below w.heap.size w w' := by
  obtain ⟨c0, _⟩ := hc.head
  have hd := qdata_any p (o + 6) Ln tt _ K (K + M) z (ofs K M O S) kn F w hK hkn (ofs_lt K M O S) hz (by omega) (by omega) hc.box hF hF1 hFs
  have hTs : T.size ≤ 1000 := by
    rw [hT, joinTo_size F z hFs]
    exact Nat.le_trans (Nat.mul_le_mul hK.2 hz.2) (by decide)
  rw [← hT] at hd
  have hrd := fun W => oread_any T W hTs
  clear hc hF hF1 hFs hkn hT
  go_enter Tryz.func61, Tryz.ntmps61
  go_wp2_with fail
  refine hd.mono ?_
  rintro e w1 ⟨⟨h1, h2⟩, hb1⟩
  by_cases hall : ∀ j, j < K → (F j).2 = true
  · rw [h1 hall]
    have Hall := hide hall
    clear h1 h2 hall hd
    go_wp2_with fail
    refine (hrd _).mono ?_
    rintro e w2 ⟨⟨h1, h2⟩, hb2⟩
    have hbf := hb1.trans (hb2.mono hb1.size)
    cases hk : objOk T with
    | true =>
      rw [h1 hk]
      have Hk := hide hk
      obtain ⟨x, hx⟩ : ∃ x, x = objText T := ⟨_, rfl⟩
      rw [← hx]
      have Hx := hide hx
      clear h1 h2 hk hx
      go_wp2_with fail
      go_ret2
      exact ⟨⟨fun _ _ => by rw [← Hx.out]; rfl, fun _ h => (by rw [Hk.out] at h; cases h), fun h => absurd Hall.out h⟩, hbf⟩
    | false =>
      rw [h2 hk]
      have Hk := hide hk
      clear h1 h2 hk
      go_wp2_with fail
      go_ret2
      exact ⟨⟨fun _ h => (by rw [Hk.out] at h; cases h), fun _ _ => rfl, fun h => absurd Hall.out h⟩, hbf⟩
  · rw [h2 hall]
    have Hall := hide hall
    clear h1 h2 hall hd
    go_wp2_with fail
    go_ret2
    exact ⟨⟨fun h => absurd h Hall.out, fun h => absurd h Hall.out, fun _ => rfl⟩, hb1⟩

set_option maxRecDepth 100000 in
set_option maxHeartbeats 4000000 in
theorem pnext_other (p o Ln : Nat) (tt : TypeId) (hh : Nat → Value) (K M O S z n : Nat) (of : Nat → Nat) (kn : Kn) (K' M' O' S' z' i : Nat) (q : ByteArray) (w : World) (hc : CatOff w p o Ln tt hh true K M O S z n of kn) (hno : ¬ (K' = K ∧ M' = M ∧ O' = O ∧ S' = S ∧ z' = z)) :
    Calls Tryz.prog 92 #[.pointer (some ⟨p, o, none⟩), .agg (pkC K' M' O' S' z' i q)] w fun e w' => e = .returned (.int .i64 7) ∧ Below w.heap.size w w' := by
  have hcA := hc.on (Nat.le_refl _) ((Below.refl _ _).alloc (Nat.le_refl _) (.cells (pkC K' M' O' S' z' i q) 142))
  have hpk := pk_cells (heap_alloc_new w (.cells (pkC K' M' O' S' z' i q) 142))
  have hbA : Below w.heap.size w (w.alloc (.cells (pkC K' M' O' S' z' i q) 142)) := (Below.refl _ _).alloc (Nat.le_refl _) _
  go_enter Tryz.func92, Tryz.ntmps92
  go_upto_region 1 with fail
  generalize w.alloc (.cells (pkC K' M' O' S' z' i q) 142) = W at *
  obtain ⟨d0, d1, d2, d3, d4, d5⟩ := hcA.head
  obtain ⟨c0, c1, c2, c3, c4, c5, c6⟩ := hpk
  have hbf : ∀ n, Below w.heap.size w (W.drewN n) := fun n => hbA.trans ⟨rfl, rfl, rfl, Nat.le_refl _, fun _ _ => rfl⟩
  clear hc hcA hbA
  by_cases e1 : K' = K ∧ M' = M ∧ O' = O ∧ S' = S
  · have hzz : ((z' : Int) != (z : Int)) = true := by simp; intro e; exact hno ⟨e1.1, e1.2.1, e1.2.2.1, e1.2.2.2, by omega⟩
    obtain ⟨rfl, rfl, rfl, rfl⟩ := e1
    clear hno
    go_quiet (fail)
    go_wp2_with fail
    go_ret
    exact ⟨rfl, hbf _⟩
  · have hor : ((K' : Int) == (K : Int)) = false ∨ (K' = K ∧ ((M' : Int) == (M : Int)) = false) ∨ (K' = K ∧ M' = M ∧ ((O' : Int) == (O : Int)) = false) ∨ (K' = K ∧ M' = M ∧ O' = O ∧ ((S' : Int) == (S : Int)) = false) := by
      simp only [beq_eq_false_iff_ne, ne_eq, Int.natCast_inj]
      omega
    clear hno e1
    rcases hor with h | ⟨rfl, h⟩ | ⟨rfl, rfl, h⟩ | ⟨rfl, rfl, rfl, h⟩
    all_goals
      go_quiet (fail)
      go_wp2_with fail
      go_ret
      exact ⟨rfl, hbf _⟩

set_option maxRecDepth 100000 in
set_option maxHeartbeats 4000000 in
theorem pnext_put (p o Ln : Nat) (tt : TypeId) (hh : Nat → Value) (K M O S z : Nat) (kn : Kn) (i : Nat) (q : ByteArray) (w : World) (hK : K ≤ 20) (hM : M ≤ 20) (hkn : KnOk K z kn) (hz : z ≤ 16) (hi : i < K + M) (hq : q.size = z) (hc : CatHas w p o Ln tt hh K M O S z kn) :
    Calls Tryz.prog 92 #[.pointer (some ⟨p, o, none⟩), .agg (pkC K M O S z i q)] w fun e w' => e = .returned (.int .i64 (putE (left kn (ofs K M O S i) q) z)) ∧ CatHas w' p o Ln tt hh K M O S z (putK kn (ofs K M O S i) q) ∧ Chg (fun k => k = p) w w' := by
  have hcA := hc.on (Nat.le_refl _) ((Below.refl _ _).alloc (Nat.le_refl _) (.cells (pkC K M O S z i q) 142))
  have hpk := pk_cells (heap_alloc_new w (.cells (pkC K M O S z i q) 142))
  have hbA : Chg (fun k => k = p) w (w.alloc (.cells (pkC K M O S z i q) 142)) := (Chg.refl _ _).alloc _
  have hsz : (w.alloc (.cells (pkC K M O S z i q) 142)).heap.size = w.heap.size + 1 := by simp
  have hpl := hc.lt
  have hput : ∀ W, BoxOff W p (o + 6) Ln tt (inCat o hh true K M O S z (K + M) (ofs K M O S) kn0) K (K + M) z (ofs K M O S) kn → Calls Tryz.prog 52 #[.pointer (some ⟨p, o + 6, none⟩), .int .i64 (i : Int), .string q] W fun e w' => e = .returned (.int .i64 (putE (left kn (ofs K M O S i) q) z)) ∧ CatHas w' p o Ln tt hh K M O S z (putK kn (ofs K M O S i) q) ∧ Chg (fun k => k = p) W w' := fun W hW =>
    (qput_ok p (o + 6) Ln tt _ K (K + M) z i q (ofs K M O S) kn W hK hkn (ofs_lt K M O S) (by omega) (by omega) hi hq hW).mono fun e w' ⟨h1, h2, h3⟩ => ⟨h1, CatOff.of_box h2, h3⟩
  obtain ⟨ee, he⟩ : ∃ ee, ee = putE (left kn (ofs K M O S i) q) z := ⟨_, rfl⟩
  obtain ⟨k2, hk2⟩ : ∃ k2, k2 = putK kn (ofs K M O S i) q := ⟨_, rfl⟩
  rw [← he, ← hk2] at hput ⊢
  clear he hk2
  go_enter Tryz.func92, Tryz.ntmps92
  go_upto_region 1 with fail
  generalize w.alloc (.cells (pkC K M O S z i q) 142) = W at *
  obtain ⟨d0, d1, d2, d3, d4, d5⟩ := hcA.head
  obtain ⟨c0, c1, c2, c3, c4, c5, c6⟩ := hpk
  have hbox := hcA.box
  clear hc hcA
  go_quiet (fail)
  have hboxN : BoxOff (W.drewN nq) p (o + 6) Ln tt (inCat o hh true K M O S z (K + M) (ofs K M O S) kn0) K (K + M) z (ofs K M O S) kn := hbox
  have c5N : (W.drewN nq).cell? ⟨w.heap.size, 5, none⟩ = some (.int .i64 (i : Int)) := c5
  have c6N : (W.drewN nq).cell? ⟨w.heap.size, 6, none⟩ = some (.string q) := c6
  have hbN := hbA.drewN nq
  have hszN : (W.drewN nq).heap.size = w.heap.size + 1 := hsz
  generalize W.drewN nq = V at *
  clear c0 c1 c2 c3 c4 c5 c6 hbox hbA d0 d1 d2 d3 d4 d5 hsz
  have hboxD : BoxOff V.drew p (o + 6) Ln tt (inCat o hh true K M O S z (K + M) (ofs K M O S) kn0) K (K + M) z (ofs K M O S) kn := hboxN
  go_wp2_with fail
  go_region_held3 (fun w' => w'.cell? ⟨w.heap.size, 5, none⟩ = some (.int .i64 (i : Int)) ∧ w'.cell? ⟨w.heap.size, 6, none⟩ = some (.string q))
    (first | (exact ⟨c5N, c6N⟩) | (exact ⟨j0, j1⟩) | go_keep)
    (first
      | (go_at_call 52; refine (hput _ (by first | exact hboxD | exact hboxN)).mono ?_; rintro e w2 ⟨rfl, hc2, hcg2⟩; have hne : w.heap.size ≠ p := (by omega); have j0 := (hcg2.cell (a := ⟨w.heap.size, 5, none⟩) (show w.heap.size < V.heap.size by omega) hne).trans c5N; have j1 := (hcg2.cell (a := ⟨w.heap.size, 6, none⟩) (show w.heap.size < V.heap.size by omega) hne).trans c6N))
  all_goals
    have hend := (hbN.drew.trans hcg2 (fun k _ h => h))
    clear hcg2 hboxN hboxD c5N c6N hput
    go_wp2_with fail
    go_ret
    exact ⟨rfl, hc2, hend⟩

end Go.Proofs.YtnjaofkieajnlaaGreat
