/- Texts of the proof, part 15. -/
import Derived.Test.YtnjaofkieajnlaaKnownG12
import Derived.Test.YtnjaofkieajnlaaKnownG13

/- The program's catcher: its data and its object. -/
namespace Go.Proofs.Ytnjaofkieajnlaa
open Go.RowKit

/-- The first texts that are told, joined. -/
def joinTo (F : Nat → ByteArray × Bool) : Nat → ByteArray
  | 0 => ByteArray.empty
  | i + 1 => joinTo F i ++ (F i).1

theorem gotTo_getD (F : Nat → ByteArray × Bool) (n i : Nat) (h : i < n) : (gotTo F n).getD i ByteArray.empty = (F i).1 := by
  induction n with
  | zero => omega
  | succ n ih =>
    show (gotTo F n ++ [(F n).1]).getD i ByteArray.empty = _
    rw [List.getD_eq_getElem?_getD]
    by_cases e : i < n
    · rw [List.getElem?_append_left (by rw [gotTo_length]; exact e), ← List.getD_eq_getElem?_getD]; exact ih e
    · have : i = n := by omega
      subst this
      rw [List.getElem?_append_right (by rw [gotTo_length]; exact Nat.le_refl _), gotTo_length, Nat.sub_self]; rfl

theorem joinTo_cat (F : Nat → ByteArray × Bool) (n i : Nat) (h : i ≤ n) : catTo (gotTo F n) i = joinTo F i := by
  induction i with
  | zero => rfl
  | succ i ih =>
    show catTo (gotTo F n) i ++ (gotTo F n).getD i ByteArray.empty = joinTo F i ++ (F i).1
    rw [ih (by omega), gotTo_getD F n i (by omega)]

theorem joinTo_size (F : Nat → ByteArray × Bool) (z : Nat) (h : ∀ i, (F i).1.size = z) (i : Nat) : (joinTo F i).size = i * z := by
  induction i with
  | zero => simp [joinTo]
  | succ i ih =>
    show (joinTo F i ++ (F i).1).size = _
    rw [ByteArray.size_append, ih, h, Nat.succ_mul]

set_option maxRecDepth 100000 in
set_option maxHeartbeats 4000000 in
theorem qdata_any (p o Ln : Nat) (tt : TypeId) (hh : Nat → Value) (K n z : Nat) (of : Nat → Nat) (kn : Kn) (F : Nat → ByteArray × Bool) (w : World) (hK : 1 ≤ K ∧ K ≤ 20) (hkn : KnOk K z kn) (hof : ∀ i, of i < 2 ^ K) (hz : 1 ≤ z ∧ z ≤ 16) (hn : n ≤ 40) (hKn : K ≤ n) (hbox : BoxOff w p o Ln tt hh K n z of kn)
    (hF : ∀ i, i < K → ((F i).2 = true ↔ (left kn (of i) (zeroB z)).1 = 0)) (hF1 : ∀ i, i < K → (F i).1 = (left kn (of i) (zeroB z)).2) (hFs : ∀ i, (F i).1.size = z) :
    Calls Try.prog 88 #[.pointer (some ⟨p, o, none⟩)] w fun e w' => (((∀ j, j < K → (F j).2 = true) → e = .returned (.tuple #[.string (joinTo F K), .int .i64 0])) ∧ (¬ (∀ j, j < K → (F j).2 = true) → e = .returned (.tuple #[.string ⟨#[]⟩, .int .i64 5]))) ∧ Below w.heap.size w w' := by
  obtain ⟨i0, hi0, hz0, hz1, hz2⟩ := info_parts Try.infoByte
  have hmk : ∀ w, (Instr.makeSlice 53 (.int .i64 0) (.int .i64 320)).run Try.prog w = .ok (.slice (some ⟨w.heap.size, 0, none⟩) 0 320) (w.alloc (.cells (madeCells #[.int .u8 0] 320) 5)) := run_make_byteRow 320 (by omega)
  have hge : ∀ wr, Below w.heap.size w wr → ∀ i, i < K → Calls Try.prog 71 #[.pointer (some ⟨p, o, none⟩), .int .i64 (i : Int)] wr fun e w' => e = .returned (.tuple (if (F i).2 = true then #[.string (F i).1, .int .i64 0] else #[.string ⟨#[]⟩, .int .i64 5])) ∧ Below wr.heap.size wr w' := fun wr hb i hi => by
    have h1 := qget_ok p o Ln tt hh K n z i of kn wr hK.2 hkn hof (by omega) hn (by omega) (hbox.on (Nat.le_refl _) hb)
    rw [← hF1 i hi] at h1
    simp only [← hF i hi] at h1
    exact h1
  have hcell : ∀ wr, Below w.heap.size w wr → wr.cell? ⟨p, o, none⟩ = some (.int .i64 (K : Int)) := fun wr hb => (hbox.on (Nat.le_refl _) hb).head.1
  have hsz := joinTo_size F z hFs
  have hown : (w.alloc (.cells (madeCells #[.int .u8 0] 320) 5)).ownsRow w.heap.size 5 1 (.slice (some ⟨w.heap.size, 0, none⟩) 0 320) 0 (bytesV (joinTo F 0)) := by
    have := World.ownsRow_made (base := w.heap.size) (e := 5) (size := 1) w (madeCells #[.int .u8 0] 320) 320 (by simp) (by unfold maxLen; omega) (by simp [size_madeCells])
    have e0 : bytesV (joinTo F 0) = [] := rfl
    rw [e0]
    simpa using this
  have hpl := hbox.lt
  have hbA : Below w.heap.size w (w.alloc (.cells (madeCells #[.int .u8 0] 320) 5)) := (Below.refl _ _).alloc (Nat.le_refl _) _
  clear hbox hkn hof hF hF1
  go_enter Try.func88, Try.ntmps88
  go_wp2_with fail
  go_loopw [4, 5] (fun dv t wr => ∃ i : Nat, i ≤ K ∧ t = .int .i64 i ∧ wr.ownsRow w.heap.size 5 1 dv (joinTo F i).size (bytesV (joinTo F i)) ∧ (∀ j, j < i → (F j).2 = true) ∧ Below w.heap.size w wr) (fun _ t _ => K - (intOf t).toNat)
  case atStart => exact ⟨0, Nat.zero_le _, rfl, hown, fun j hj => absurd hj (Nat.not_lt_zero _), hbA⟩
  case round =>
    clear hown hbA hmk
    obtain ⟨i, hiK, rfl, hown, hall, hbr⟩ := hrel
    have Hall := hide hall
    have hwr := hbr.size
    have c0 := hcell wr hbr
    have hszi := hsz i
    have hzi : i * z ≤ 320 := Nat.le_trans (Nat.mul_le_mul (Nat.le_trans hiK hK.2) hz.2) (by decide)
    have hJ : (joinTo F i).size ≤ 320 := by omega
    clear hall hszi
    by_cases hlt : i < K
    · have hg := hge wr hbr i hlt
      have hgt : joinTo F (i + 1) = joinTo F i ++ (F i).1 := rfl
      have Hgt := hide hgt
      have hFi : (F i).1.size ≤ 16 := by rw [hFs i]; omega
      clear hgt
      cases hk : (F i).2 with
      | false =>
        rw [hk, if_neg (by simp)] at hg
        have hno : ¬ (∀ j, j < K → (F j).2 = true) := fun h => by rw [h i hlt] at hk; cases hk
        have Hno := hide hno
        clear hk hno
        go_wp2_with fail
        refine hg.mono ?_
        rintro e w4 ⟨rfl, hb4⟩
        have hbr4 := hbr.trans (hb4.mono hbr.size)
        clear hb4 hown hbr hg c0
        go_wp2_with fail
        go_ret2
        exact ⟨⟨fun h => absurd h Hno.out, fun _ => rfl⟩, hbr4⟩
      | true =>
        rw [hk, if_pos rfl] at hg
        have Hk := hide hk
        clear hk
        generalize hq : (F i).1 = q at *
        clear hq
        generalize hJi : joinTo F i = J at *
        go_wp2_with fail
        refine hg.mono ?_
        rintro e w4 ⟨rfl, hb4⟩
        have hown4 := owns_below hown hb4
        have hbr4 := hbr.trans (hb4.mono hbr.size)
        have hw4 := hbr4.size
        clear hb4 hown hbr hg c0
        go_wp2_with (at_builtin; refine Go.Lib.wpList_append_own_string _ rfl (.tmp 26) (.tmp 27) 53 9 rfl w.heap.size 5 i0 Try.underlying53 Try.underlying9 hi0 hz0 hz1 hz2 _ _ _ rfl hown4 q rfl (by unfold maxLen; omega) (by omega) (by omega) ?_)
        intro v5 w5 hown5 hgr5 _
        have hb5 : Below w.heap.size w w5 := hbr4.grown hgr5 hbr4.size (fun k e => (hown4.lt k e).1)
        rw [bytesV_str, ← bytesV_app] at hown5
        clear hown4 hbr4 hgr5
        go_wp2_with fail
        go_roundw
        case rel =>
          refine ⟨i + 1, by omega, by go_num, by rw [Hgt.out, ByteArray.size_append]; exact hown5, fun j hj => ?_, hb5⟩
          by_cases e : j = i
          · subst e; exact Hk.out
          · exact Hall.out j (by omega)
        case measure => simp [intOf]; omega
    · have hii : i = K := by omega
      subst hii
      have hpos : 0 < i * z := Nat.mul_pos (by omega) (by omega)
      have hcv := conv_own (joinTo F i) _ _ _ wr hown rfl (by rw [hsz i]; omega)
      obtain ⟨J, hJe⟩ : ∃ J, J = joinTo F i := ⟨_, rfl⟩
      rw [← hJe] at hcv
      have HJ := hide hJe
      clear hown hge hcell hJe hJ
      go_wp2_with fail
      go_ret2
      exact ⟨⟨fun _ => by rw [← HJ.out]; rfl, fun h => absurd Hall.out h⟩, hbr⟩

theorem zero_iff (t : ByteArray) (m : Nat) (hm : m ≤ t.size) : t.extract m t.size = zeroB (t.size - m) ↔ ∀ i, m ≤ i → i < t.size → byteAt t i = 0 := by
  have hs : (t.extract m t.size).size = t.size - m := by rw [ByteArray.size_extract]; omega
  constructor
  · intro h i h1 h2
    have := byteAt_extract t m t.size (i - m) (Nat.le_refl _) (by omega)
    rw [h, byteAt_zeroB, show m + (i - m) = i by omega] at this
    exact this.symm
  · intro h
    refine bytes_ext (by rw [hs, zeroB_size]) (fun i hi => ?_)
    rw [hs] at hi
    rw [byteAt_zeroB, byteAt_extract t m t.size i (Nat.le_refl _) (by omega)]
    exact h (m + i) (by omega) (by omega)

set_option maxRecDepth 100000 in
set_option maxHeartbeats 4000000 in
theorem oread_any (t : ByteArray) (w : World) (hts : t.size ≤ 1000) :
    Calls Try.prog 89 #[.string t] w fun e w' => ((objOk t = true → e = .returned (.tuple #[.string (objText t), .int .i64 0])) ∧ (objOk t = false → e = .returned (.tuple #[.string ⟨#[]⟩, .int .i64 8]))) ∧ Below w.heap.size w w' := by
  have hbd : ∀ n, Below w.heap.size w (w.drewN n) := fun n => ⟨rfl, rfl, rfl, Nat.le_refl _, fun _ _ => rfl⟩
  by_cases h2 : t.size < 2
  · have hok : objOk t = false := by unfold objOk; rw [if_neg (by omega)]
    have Hok := hide hok
    have hl : (t.size : Int) < 2 := by omega
    clear hok
    go_enter Try.func89, Try.ntmps89
    go_wp2_with fail
    go_ret2
    exact ⟨⟨fun h => (by rw [Hok.out] at h; cases h), fun _ => rfl⟩, Below.refl _ _⟩
  · have g0 := byteAt_get t 0 (by omega)
    have g1 := byteAt_get t 1 (by omega)
    have b0 := (byteAt t 0).toNat_lt
    have b1 := (byteAt t 1).toNat_lt
    have i0 : (0 : Int) < (t.size : Int) := by omega
    have i1 : (1 : Int) < (t.size : Int) := by omega
    have hl : ¬ (t.size : Int) < 2 := by omega
    obtain ⟨L, hL⟩ : ∃ L, L = objLen t := ⟨_, rfl⟩
    have hL2 : ((2 : Int) + ((byteAt t 0).toNat : Int)) + 256 * ((byteAt t 1).toNat : Int) = ((2 + L : Nat) : Int) := by rw [hL]; unfold objLen; omega
    have hLb : L ≤ 65535 := by rw [hL]; unfold objLen; omega
    have HL := hide hL
    have HL2 := hide hL2
    clear hL hL2
    go_enter Try.func89, Try.ntmps89
    go_upto_region 3 with fail
    go_cut [4] (fun s4 wc => s4 = .int .i64 ((2 + L : Nat) : Int) ∧ ∃ n, wc = w.drewN n)
    case first =>
      go_quiet (fail)
      go_wp2_with fail
      go_meet
      case rel => exact ⟨by rw [← HL2.out], _, rfl⟩
    case rest =>
    obtain ⟨rfl, nq, rfl⟩ := hcut
    clear g0 g1 b0 b1
    have hbW := hbd nq
    generalize w.drewN nq = W at *
    clear hbd
    by_cases hle : L + 2 ≤ t.size
    · have hle2 : ¬ (t.size : Int) < ((2 + L : Nat) : Int) := by omega
      have hiff := zero_iff t (2 + L) (by omega)
      have hok : objOk t = decide (t.extract (2 + L) t.size = zeroB (t.size - (2 + L))) := by unfold objOk; rw [← HL.out, if_pos hle]
      have htx : objText t = t.extract 2 (2 + L) := by unfold objText; rw [← HL.out, if_pos hle]
      have Hiff := hide hiff
      have Hok := hide hok
      have Htx := hide htx
      clear hiff hok htx
      go_wp2_with fail
      go_loop [5] (fun iv => ∃ i : Nat, 2 + L ≤ i ∧ i ≤ t.size ∧ iv = .int .i64 (i : Int) ∧ ∀ j, 2 + L ≤ j → j < i → byteAt t j = 0) (fun iv => t.size - (intOf iv).toNat)
      case atStart => exact ⟨2 + L, Nat.le_refl _, by omega, rfl, fun j h1 h2 => absurd h2 (by omega)⟩
      case round =>
        obtain ⟨i, hi1, hi2, rfl, hall⟩ := hrel
        have Hall := hide hall
        clear hall
        by_cases hlt : i < t.size
        · have gi := byteAt_get t i hlt
          have j1 : (0 : Int) ≤ (i : Int) := by omega
          have j2 : (i : Int) < (t.size : Int) := by omega
          by_cases hz : byteAt t i = 0
          · have hb : (((byteAt t i).toNat : Int) != 0) = false := by rw [hz]; rfl
            have Hz := hide hz
            clear hz
            go_wp2_with fail
            go_round
            case rel =>
              refine ⟨i + 1, by omega, by omega, by go_num, fun j h1 h2 => ?_⟩
              by_cases e : j = i
              · subst e; exact Hz.out
              · exact Hall.out j h1 (by omega)
            case measure => simp [intOf]; omega
          · have hb : (((byteAt t i).toNat : Int) != 0) = true := by
              simp only [bne_iff_ne, ne_eq]
              intro e
              exact hz (UInt8.toNat_inj.1 (by show (byteAt t i).toNat = 0; omega))
            have hno : objOk t = false := by
              rw [Hok.out]
              exact decide_eq_false (fun h => hz (Hiff.out.1 h i hi1 hlt))
            have Hno := hide hno
            clear hz hno
            go_wp2_with fail
            go_ret2
            exact ⟨⟨fun h => (by rw [Hno.out] at h; cases h), fun _ => rfl⟩, hbW⟩
        · have hii : i = t.size := by omega
          have hyes : objOk t = true := by
            rw [Hok.out]
            exact decide_eq_true (Hiff.out.2 (fun j h1 h2 => Hall.out j h1 (by omega)))
          have Hyes := hide hyes
          have k1 : ¬ (i : Int) < (t.size : Int) := by omega
          have k2 : (2 : Int) ≤ ((2 + L : Nat) : Int) := by omega
          have k3 : ((2 + L : Nat) : Int) ≤ (t.size : Int) := by omega
          clear hyes hii
          go_wp2_with fail
          go_ret2
          exact ⟨⟨fun _ => by rw [Htx.out, show 2 + L = ((2 : Int) + (L : Int)).toNat by omega]; rfl, fun h => (by rw [Hyes.out] at h; cases h)⟩, hbW⟩
    · have hle2 : (t.size : Int) < ((2 + L : Nat) : Int) := by omega
      have hok : objOk t = false := by unfold objOk; rw [← HL.out, if_neg hle]
      have Hok := hide hok
      clear hok
      go_wp2_with fail
      go_ret2
      exact ⟨⟨fun h => (by rw [Hok.out] at h; cases h), fun _ => rfl⟩, hbW⟩

end Go.Proofs.Ytnjaofkieajnlaa

/- The document's own read: texts too short or too long. -/
namespace Go.Proofs.Ytnjaofkieajnlaa
open Go.RowKit

end Go.Proofs.Ytnjaofkieajnlaa

/- The document's own Hear: no packet. -/
namespace Go.Proofs.Ytnjaofkieajnlaa
open Go.RowKit

end Go.Proofs.Ytnjaofkieajnlaa

/- The document's own Hear: the first packet. -/
namespace Go.Proofs.Ytnjaofkieajnlaa
open Go.RowKit

end Go.Proofs.Ytnjaofkieajnlaa

/- What both reads answer: the program's and the document's. -/
namespace Go.Proofs.Ytnjaofkieajnlaa
open Go.RowKit

theorem PacketOk.has {p : ByteArray} (h : PacketOk p) : (1 ≤ rK p ∧ rK p ≤ 20) ∧ (1 ≤ rM p ∧ rM p ≤ 20) ∧ (1 ≤ rO p ∧ rO p ≤ rM p) ∧ rS p ≤ 65535 ∧ (1 ≤ rZ p ∧ rZ p ≤ 16) ∧ rI p < rK p + rM p ∧ (rQ p).size = rZ p := by
  obtain ⟨h1, h2, _, hm, hi, hs, _⟩ := h
  have := mayB_true hm
  refine ⟨by omega, by omega, by omega, by omega, by omega, hi, ?_⟩
  unfold rQ
  rw [ByteArray.size_extract]
  omega

theorem pread_ok (p : ByteArray) (w : World) (h : PacketOk p) :
    Calls Try.prog 90 #[.string p] w fun e w' => e = .returned (.tuple #[.agg (pkC (rK p) (rM p) (rO p) (rS p) (rZ p) (rI p) (rQ p)), .bool true]) ∧ Below w.heap.size w w' := by
  obtain ⟨h1, h2, h0, hm, hi, hs, ha⟩ := h
  have hq : p.extract 8 (8 + rZ p) = rQ p := by unfold rQ; rw [show 8 + rZ p = p.size - 1 by omega]
  refine (pread_walk p (rK p) (rM p) (rO p) (rS p) (rZ p) (rI p) w (by omega) h0 rfl rfl rfl rfl rfl rfl).mono fun e w' h => ⟨?_, h.2⟩
  rw [h.1.1 ⟨hm, by omega, by omega, hi, hs, ha⟩, hq]

theorem pread_no (p : ByteArray) (w : World) (h : ¬ PacketOk p) :
    Calls Try.prog 90 #[.string p] w fun e w' => e = .returned (.tuple #[.agg pk0, .bool false]) ∧ Below w.heap.size w w' := by
  by_cases h8 : p.size < 8
  · exact pread_short p w (Or.inl (by omega))
  · by_cases h0 : byteAt p 0 = 82
    · refine (pread_walk p (rK p) (rM p) (rO p) (rS p) (rZ p) (rI p) w (by omega) h0 rfl rfl rfl rfl rfl rfl).mono fun e w' hh => ⟨?_, hh.2⟩
      exact hh.1.2 (fun ⟨a, b, c, d, f, g⟩ => h ⟨by omega, by omega, h0, a, d, f, g⟩)
    · exact pread_short p w (Or.inr ⟨by omega, h0⟩)

end Go.Proofs.Ytnjaofkieajnlaa

/- The program's catcher: Object; Hear of further packets. -/
namespace Go.Proofs.Ytnjaofkieajnlaa
open Go.RowKit

set_option maxRecDepth 100000 in
set_option maxHeartbeats 4000000 in
theorem pobj_none (p o Ln : Nat) (tt : TypeId) (hh : Nat → Value) (w : World) (hc : CatNone w p o Ln tt hh) :
    Calls Try.prog 72 #[.pointer (some ⟨p, o, none⟩)] w fun e w' => e = .returned (.tuple #[.string ⟨#[]⟩, .int .i64 5]) ∧ w' = w := by
  obtain ⟨c0, _⟩ := hc.head
  clear hc
  go_enter Try.func72, Try.ntmps72
  go_wp2_with fail
  go_ret2
  exact ⟨rfl, rfl⟩

set_option maxRecDepth 100000 in
set_option maxHeartbeats 4000000 in
theorem pobj_has (p o Ln : Nat) (tt : TypeId) (hh : Nat → Value) (K M O S z : Nat) (kn : Kn) (F : Nat → ByteArray × Bool) (T : ByteArray) (w : World) (hK : 1 ≤ K ∧ K ≤ 20) (hM : M ≤ 20) (hkn : KnOk K z kn) (hz : 1 ≤ z ∧ z ≤ 16) (hc : CatHas w p o Ln tt hh K M O S z kn)
    (hF : ∀ i, i < K → ((F i).2 = true ↔ (left kn (ofs K M O S i) (zeroB z)).1 = 0)) (hF1 : ∀ i, i < K → (F i).1 = (left kn (ofs K M O S i) (zeroB z)).2) (hFs : ∀ i, (F i).1.size = z) (hT : T = joinTo F K) :
    Calls Try.prog 72 #[.pointer (some ⟨p, o, none⟩)] w fun e w' => (((∀ j, j < K → (F j).2 = true) → objOk T = true → e = .returned (.tuple #[.string (objText T), .int .i64 0])) ∧ ((∀ j, j < K → (F j).2 = true) → objOk T = false → e = .returned (.tuple #[.string ⟨#[]⟩, .int .i64 8])) ∧ (¬ (∀ j, j < K → (F j).2 = true) → e = .returned (.tuple #[.string ⟨#[]⟩, .int .i64 5]))) ∧ Below w.heap.size w w' := by
  obtain ⟨c0, _⟩ := hc.head
  have hd := qdata_any p (o + 6) Ln tt _ K (K + M) z (ofs K M O S) kn F w hK hkn (ofs_lt K M O S) hz (by omega) (by omega) hc.box hF hF1 hFs
  have hTs : T.size ≤ 1000 := by
    rw [hT, joinTo_size F z hFs]
    exact Nat.le_trans (Nat.mul_le_mul hK.2 hz.2) (by decide)
  rw [← hT] at hd
  have hrd := fun W => oread_any T W hTs
  clear hc hF hF1 hFs hkn hT
  go_enter Try.func72, Try.ntmps72
  go_wp2_with fail
  refine hd.mono ?_
  rintro e w1 ⟨⟨h1, h2⟩, hb1⟩
  by_cases hall : ∀ j, j < K → (F j).2 = true
  · rw [h1 hall]
    have Hall := hide hall
    clear h1 h2 hall hd
    go_wp2_with fail
    refine (hrd _).mono ?_
    rintro e w2 ⟨⟨h1, h2⟩, hb2⟩
    have hbf := hb1.trans (hb2.mono hb1.size)
    cases hk : objOk T with
    | true =>
      rw [h1 hk]
      have Hk := hide hk
      obtain ⟨x, hx⟩ : ∃ x, x = objText T := ⟨_, rfl⟩
      rw [← hx]
      have Hx := hide hx
      clear h1 h2 hk hx
      go_wp2_with fail
      go_ret2
      exact ⟨⟨fun _ _ => by rw [← Hx.out]; rfl, fun _ h => (by rw [Hk.out] at h; cases h), fun h => absurd Hall.out h⟩, hbf⟩
    | false =>
      rw [h2 hk]
      have Hk := hide hk
      clear h1 h2 hk
      go_wp2_with fail
      go_ret2
      exact ⟨⟨fun _ h => (by rw [Hk.out] at h; cases h), fun _ _ => rfl, fun h => absurd Hall.out h⟩, hbf⟩
  · rw [h2 hall]
    have Hall := hide hall
    clear h1 h2 hall hd
    go_wp2_with fail
    go_ret2
    exact ⟨⟨fun h => absurd h Hall.out, fun h => absurd h Hall.out, fun _ => rfl⟩, hb1⟩

set_option maxRecDepth 100000 in
set_option maxHeartbeats 4000000 in
theorem pnext_other (p o Ln : Nat) (tt : TypeId) (hh : Nat → Value) (K M O S z n : Nat) (of : Nat → Nat) (kn : Kn) (K' M' O' S' z' i : Nat) (q : ByteArray) (w : World) (hc : CatOff w p o Ln tt hh true K M O S z n of kn) (hno : ¬ (K' = K ∧ M' = M ∧ O' = O ∧ S' = S ∧ z' = z)) :
    Calls Try.prog 91 #[.pointer (some ⟨p, o, none⟩), .agg (pkC K' M' O' S' z' i q)] w fun e w' => e = .returned (.int .i64 7) ∧ Below w.heap.size w w' := by
  have hcA := hc.on (Nat.le_refl _) ((Below.refl _ _).alloc (Nat.le_refl _) (.cells (pkC K' M' O' S' z' i q) 107))
  have hpk := pk_cells (heap_alloc_new w (.cells (pkC K' M' O' S' z' i q) 107))
  have hbA : Below w.heap.size w (w.alloc (.cells (pkC K' M' O' S' z' i q) 107)) := (Below.refl _ _).alloc (Nat.le_refl _) _
  go_enter Try.func91, Try.ntmps91
  go_upto_region 1 with fail
  generalize w.alloc (.cells (pkC K' M' O' S' z' i q) 107) = W at *
  obtain ⟨d0, d1, d2, d3, d4, d5⟩ := hcA.head
  obtain ⟨c0, c1, c2, c3, c4, c5, c6⟩ := hpk
  have hbf : ∀ n, Below w.heap.size w (W.drewN n) := fun n => hbA.trans ⟨rfl, rfl, rfl, Nat.le_refl _, fun _ _ => rfl⟩
  clear hc hcA hbA
  by_cases e1 : K' = K ∧ M' = M ∧ O' = O ∧ S' = S
  · have hzz : ((z' : Int) != (z : Int)) = true := by simp; intro e; exact hno ⟨e1.1, e1.2.1, e1.2.2.1, e1.2.2.2, by omega⟩
    obtain ⟨rfl, rfl, rfl, rfl⟩ := e1
    clear hno
    go_quiet (fail)
    go_wp2_with fail
    go_ret
    exact ⟨rfl, hbf _⟩
  · have hor : ((K' : Int) == (K : Int)) = false ∨ (K' = K ∧ ((M' : Int) == (M : Int)) = false) ∨ (K' = K ∧ M' = M ∧ ((O' : Int) == (O : Int)) = false) ∨ (K' = K ∧ M' = M ∧ O' = O ∧ ((S' : Int) == (S : Int)) = false) := by
      simp only [beq_eq_false_iff_ne, ne_eq, Int.natCast_inj]
      omega
    clear hno e1
    rcases hor with h | ⟨rfl, h⟩ | ⟨rfl, rfl, h⟩ | ⟨rfl, rfl, rfl, h⟩
    all_goals
      go_quiet (fail)
      go_wp2_with fail
      go_ret
      exact ⟨rfl, hbf _⟩

set_option maxRecDepth 100000 in
set_option maxHeartbeats 4000000 in
theorem pnext_put (p o Ln : Nat) (tt : TypeId) (hh : Nat → Value) (K M O S z : Nat) (kn : Kn) (i : Nat) (q : ByteArray) (w : World) (hK : K ≤ 20) (hM : M ≤ 20) (hkn : KnOk K z kn) (hz : z ≤ 16) (hi : i < K + M) (hq : q.size = z) (hc : CatHas w p o Ln tt hh K M O S z kn) :
    Calls Try.prog 91 #[.pointer (some ⟨p, o, none⟩), .agg (pkC K M O S z i q)] w fun e w' => e = .returned (.int .i64 (putE (left kn (ofs K M O S i) q) z)) ∧ CatHas w' p o Ln tt hh K M O S z (putK kn (ofs K M O S i) q) ∧ Chg (fun k => k = p) w w' := by
  have hcA := hc.on (Nat.le_refl _) ((Below.refl _ _).alloc (Nat.le_refl _) (.cells (pkC K M O S z i q) 107))
  have hpk := pk_cells (heap_alloc_new w (.cells (pkC K M O S z i q) 107))
  have hbA : Chg (fun k => k = p) w (w.alloc (.cells (pkC K M O S z i q) 107)) := (Chg.refl _ _).alloc _
  have hsz : (w.alloc (.cells (pkC K M O S z i q) 107)).heap.size = w.heap.size + 1 := by simp
  have hpl := hc.lt
  have hput : ∀ W, BoxOff W p (o + 6) Ln tt (inCat o hh true K M O S z (K + M) (ofs K M O S) kn0) K (K + M) z (ofs K M O S) kn → Calls Try.prog 69 #[.pointer (some ⟨p, o + 6, none⟩), .int .i64 (i : Int), .string q] W fun e w' => e = .returned (.int .i64 (putE (left kn (ofs K M O S i) q) z)) ∧ CatHas w' p o Ln tt hh K M O S z (putK kn (ofs K M O S i) q) ∧ Chg (fun k => k = p) W w' := fun W hW =>
    (qput_ok p (o + 6) Ln tt _ K (K + M) z i q (ofs K M O S) kn W hK hkn (ofs_lt K M O S) (by omega) (by omega) hi hq hW).mono fun e w' ⟨h1, h2, h3⟩ => ⟨h1, CatOff.of_box h2, h3⟩
  obtain ⟨ee, he⟩ : ∃ ee, ee = putE (left kn (ofs K M O S i) q) z := ⟨_, rfl⟩
  obtain ⟨k2, hk2⟩ : ∃ k2, k2 = putK kn (ofs K M O S i) q := ⟨_, rfl⟩
  rw [← he, ← hk2] at hput ⊢
  clear he hk2
  go_enter Try.func91, Try.ntmps91
  go_upto_region 1 with fail
  generalize w.alloc (.cells (pkC K M O S z i q) 107) = W at *
  obtain ⟨d0, d1, d2, d3, d4, d5⟩ := hcA.head
  obtain ⟨c0, c1, c2, c3, c4, c5, c6⟩ := hpk
  have hbox := hcA.box
  clear hc hcA
  go_quiet (fail)
  have hboxN : BoxOff (W.drewN nq) p (o + 6) Ln tt (inCat o hh true K M O S z (K + M) (ofs K M O S) kn0) K (K + M) z (ofs K M O S) kn := hbox
  have c5N : (W.drewN nq).cell? ⟨w.heap.size, 5, none⟩ = some (.int .i64 (i : Int)) := c5
  have c6N : (W.drewN nq).cell? ⟨w.heap.size, 6, none⟩ = some (.string q) := c6
  have hbN := hbA.drewN nq
  have hszN : (W.drewN nq).heap.size = w.heap.size + 1 := hsz
  generalize W.drewN nq = V at *
  clear c0 c1 c2 c3 c4 c5 c6 hbox hbA d0 d1 d2 d3 d4 d5 hsz
  have hboxD : BoxOff V.drew p (o + 6) Ln tt (inCat o hh true K M O S z (K + M) (ofs K M O S) kn0) K (K + M) z (ofs K M O S) kn := hboxN
  go_wp2_with fail
  go_region_held3 (fun w' => w'.cell? ⟨w.heap.size, 5, none⟩ = some (.int .i64 (i : Int)) ∧ w'.cell? ⟨w.heap.size, 6, none⟩ = some (.string q))
    (first | (exact ⟨c5N, c6N⟩) | (exact ⟨j0, j1⟩) | go_keep)
    (first
      | (go_at_call 69; refine (hput _ (by first | exact hboxD | exact hboxN)).mono ?_; rintro e w2 ⟨rfl, hc2, hcg2⟩; have hne : w.heap.size ≠ p := (by omega); have j0 := (hcg2.cell (a := ⟨w.heap.size, 5, none⟩) (show w.heap.size < V.heap.size by omega) hne).trans c5N; have j1 := (hcg2.cell (a := ⟨w.heap.size, 6, none⟩) (show w.heap.size < V.heap.size by omega) hne).trans c6N))
  all_goals
    have hend := (hbN.drew.trans hcg2 (fun k _ h => h))
    clear hcg2 hboxN hboxD c5N c6N hput
    go_wp2_with fail
    go_ret
    exact ⟨rfl, hc2, hend⟩

end Go.Proofs.Ytnjaofkieajnlaa

/- The program's catcher: Hear of the first packet. -/
namespace Go.Proofs.Ytnjaofkieajnlaa
open Go.RowKit

/-- A row behind many stores. -/
theorem row_setCells {b : Nat} {t : TypeId} {n : Nat} : ∀ (vs : List Value) (o : Nat) (w : World) (f : Nat → Value), w.rowIs b t n f → (w.setCells b o vs).rowIs b t n (fun j => if o ≤ j ∧ j < o + vs.length then vs.getD (j - o) undef else f j)
  | [], o, w, f, h => h.congr (fun j _ => by rw [if_neg (by simp)])
  | v :: r, o, w, f, h => by
    refine (row_setCells r (o + 1) _ _ (h.set o v)).congr (fun j _ => ?_)
    by_cases h1 : j = o
    · subst h1
      rw [if_neg (by omega), if_pos rfl, if_pos (by simp), Nat.sub_self]
      rfl
    · by_cases h2 : o + 1 ≤ j ∧ j < o + 1 + r.length
      · rw [if_pos h2, if_pos (by simp; omega), show j - o = (j - (o + 1)) + 1 by omega]; rfl
      · rw [if_neg h2, if_neg h1, if_neg (by simp; omega)]

/-- The cells of a box, and of a catcher that has heard, as lists. -/
def boxL (K n z : Nat) (T : Nat → Nat) (kn : Kn) : List Value := (List.range 83).map (boxCell K n z T kn)

def catL (K M O S z n : Nat) (T : Nat → Nat) (kn : Kn) : List Value := (List.range 89).map (catCell true K M O S z n T kn)

theorem boxL_length (K n z : Nat) (T : Nat → Nat) (kn : Kn) : (boxL K n z T kn).length = 83 := by simp [boxL]

theorem catL_length (K M O S z n : Nat) (T : Nat → Nat) (kn : Kn) : (catL K M O S z n T kn).length = 89 := by simp [catL]

theorem boxL_get (K n z : Nat) (T : Nat → Nat) (kn : Kn) (i : Nat) (hi : i < 83) : (boxL K n z T kn)[i]? = some (boxCell K n z T kn i) := by
  unfold boxL
  rw [List.getElem?_map, List.getElem?_range hi]; rfl

theorem catL_get (K M O S z n : Nat) (T : Nat → Nat) (kn : Kn) (i : Nat) (hi : i < 89) : (catL K M O S z n T kn)[i]? = some (catCell true K M O S z n T kn i) := by
  unfold catL
  rw [List.getElem?_map, List.getElem?_range hi]; rfl

theorem boxCell_one (K n z : Nat) (T : Nat → Nat) (kn : Kn) (i : Nat) : (boxCell K n z T kn i).oneCell' = true := by
  unfold boxCell
  repeat' split
  all_goals rfl

theorem catL_one (K M O S z n : Nat) (T : Nat → Nat) (kn : Kn) : ∀ v ∈ catL K M O S z n T kn, v.oneCell' = true := by
  intro v hv
  obtain ⟨i, _, rfl⟩ := List.mem_map.1 hv
  unfold catCell
  repeat' split
  all_goals first | rfl | exact boxCell_one _ _ _ _ _ _

theorem boxL_range {w : World} {p o Ln : Nat} {tt : TypeId} {hh : Nat → Value} {K n z : Nat} {T : Nat → Nat} {kn : Kn} (h : BoxOff w p o Ln tt hh K n z T kn) : w.rangeAt p o (boxL K n z T kn) := fun j v hv => by
  have hj : j < 83 := by have := (List.getElem?_eq_some_iff.1 hv).1; rwa [boxL_length] at this
  rw [boxL_get _ _ _ _ _ _ hj] at hv
  rw [h.cell hj, hv]

/-- A new box, stored. -/
theorem newBox_off (w : World) (zs : List Value) (hzl : zs.length = 83) (K n z : Nat) (T : Nat → Nat) : BoxOff ((w.alloc (.cells zs.toArray 92)).setCells w.heap.size 0 (newL K n z T)) w.heap.size 0 83 92 (fun _ => undef) K n z T kn0 := by
  refine ⟨Nat.le_refl _, ?_⟩
  have h0 : (w.alloc (.cells zs.toArray 92)).rowIs w.heap.size 92 83 (fun i => zs.getD i undef) := by
    have := World.rowIs_alloc w zs.toArray 92 (fun i => zs.getD i undef) (fun i hi => by
      rw [List.size_toArray] at hi
      rw [List.getElem?_toArray, List.getElem?_eq_getElem hi, List.getD_eq_getElem?_getD, List.getElem?_eq_getElem hi]; rfl)
    have e : zs.toArray.size = 83 := by simp [hzl]
    rwa [e] at this
  refine (row_setCells (newL K n z T) 0 _ _ h0).congr (fun i hi => ?_)
  rw [if_pos (by rw [newL_length]; omega), Nat.sub_zero]
  unfold inBox
  rw [if_neg (by omega), if_pos (by omega), Nat.sub_zero]
  unfold newL
  rw [List.getD_eq_getElem?_getD, List.getElem?_map, List.getElem?_range hi]; rfl

/-- A catcher, stored. -/
theorem cat_stored {w : World} {p o Ln : Nat} {tt : TypeId} {hh : Nat → Value} {tk : Bool} {K' M' O' S' z' n' : Nat} {of' : Nat → Nat} {kn' : Kn} (h : CatOff w p o Ln tt hh tk K' M' O' S' z' n' of' kn') (K M O S z n : Nat) (T : Nat → Nat) (kn : Kn) : CatOff (w.setCells p o (catL K M O S z n T kn)) p o Ln tt hh true K M O S z n T kn := by
  refine ⟨h.1, (row_setCells _ o _ _ h.2).congr (fun i hi => ?_)⟩
  rw [catL_length]
  unfold inCat
  by_cases h1 : i < o
  · rw [if_neg (by omega), if_pos h1, if_pos h1]
  · by_cases h2 : i < o + 89
    · rw [if_pos (by omega), if_neg h1, if_pos h2, List.getD_eq_getElem?_getD, catL_get _ _ _ _ _ _ _ _ _ (by omega)]; rfl
    · rw [if_neg (by omega), if_neg h1, if_neg h2, if_neg h1, if_neg h2]

noncomputable def builtCat (parts : Array (Nat × Value)) : Sem Value := Instr.build 98 parts

theorem build_maskC (parts : Array (Nat × Value)) : Instr.build 98 parts = builtCat parts := rfl

theorem built_cat (K M O S z n : Nat) (T : Nat → Nat) (kn : Kn) : Try.prog.built 98 [(0, .bool true), (1, specV K M O S), (2, .int .i64 (z : Int)), (3, .agg (boxL K n z T kn).toArray)] = some (catL K M O S z n T kn).toArray := by kernel_rfl

theorem cat_build (K M O S z n : Nat) (T : Nat → Nat) (kn : Kn) (w : World) : (builtCat #[(0, .bool true), (1, specV K M O S), (2, .int .i64 (z : Int)), (3, .agg (boxL K n z T kn).toArray)]).run Try.prog w = .ok (.agg (catL K M O S z n T kn).toArray) w :=
  run_build (P := Try.prog) w 98 #[(0, .bool true), (1, specV K M O S), (2, .int .i64 (z : Int)), (3, .agg (boxL K n z T kn).toArray)] _ (built_cat K M O S z n T kn)

theorem storeCells_at (b o : Nat) (vs : List Value) (w : World) (ht : w.there b o vs.length) (h1 : ∀ v ∈ vs, v.oneCell' = true) : (storeCells ⟨b, o, none⟩ vs).run Try.prog w = .ok () (w.setCells b o vs) :=
  run_storeCells_cells (P := Try.prog) b o vs 0 w (fun j hj => by simpa using (ht j hj).1) (fun j hj => by simpa using (ht j hj).2) h1

theorem chg_setCells {S : Nat → Prop} {w w' : World} (h : Chg S w w') {b : Nat} (hb : S b) (o : Nat) (vs : List Value) : Chg S w (w'.setCells b o vs) := by
  induction vs generalizing o w' with
  | nil => exact h
  | cons v vs ih => exact ih (h.setCell (a := ⟨b, o, none⟩) (Or.inr hb) v) (o + 1)

attribute [local go_sem ↓] build_maskC

set_option maxRecDepth 100000 in
set_option maxHeartbeats 8000000 in
theorem pfirst_any (p o Ln : Nat) (tt : TypeId) (hh : Nat → Value) (K M O S z : Nat) (i : Nat) (q : ByteArray) (w : World) (hK : 1 ≤ K ∧ K ≤ 20) (hM : 1 ≤ M ∧ M ≤ 20) (hO : 1 ≤ O ∧ O ≤ M) (hS : S ≤ 65535) (hz : 1 ≤ z ∧ z ≤ 16) (hi : i < K + M) (hq : q.size = z) (hc : CatNone w p o Ln tt hh) :
    Calls Try.prog 92 #[.pointer (some ⟨p, o, none⟩), .agg (pkC K M O S z i q)] w fun e w' => e = .returned (.int .i64 (putE (left kn0 (ofs K M O S i) q) z)) ∧ (putE (left kn0 (ofs K M O S i) q) z = 0 → CatHas w' p o Ln tt hh K M O S z (putK kn0 (ofs K M O S i) q)) ∧ (putE (left kn0 (ofs K M O S i) q) z ≠ 0 → Below w.heap.size w w') ∧ Chg (fun k => k = p) w w' := by
  have hput := fun W r hW => qput_ok r 0 83 92 (fun _ => undef) K (K + M) z i q (ofs K M O S) kn0 W hK.2 (kn0_ok K z) (ofs_lt K M O S) (by omega) (by omega) hi hq hW
  have hnew := fun W => bnew_ok K M O S z W hK hM hO hS hz
  have hpl := hc.lt
  have hzb : ∀ w, (zeroValue 92).run Try.prog w = .ok (.agg zeroL.toArray) w := zero_box
  have hzl : zeroL.length = 83 := newL_length 0 0 0 (fun _ => 0)
  have hcl := newL_length K (K + M) z (ofs K M O S)
  have hone := newL_one K (K + M) z (ofs K M O S)
  have hnb := fun (W : World) (zs : List Value) (h : zs.length = 83) => newBox_off W zs h K (K + M) z (ofs K M O S)
  unfold newV at hnew
  generalize newL K (K + M) z (ofs K M O S) = cs at *
  generalize zeroL = zs at *
  obtain ⟨ee, he⟩ : ∃ ee, ee = putE (left kn0 (ofs K M O S i) q) z := ⟨_, rfl⟩
  have hee : ee = 0 ∨ ee = 4 := by rw [he]; unfold putE; split <;> simp
  obtain ⟨k2, hk2⟩ : ∃ k2, k2 = putK kn0 (ofs K M O S i) q := ⟨_, rfl⟩
  rw [← he, ← hk2] at hput ⊢
  clear he hk2
  go_enter Try.func92, Try.ntmps92
  go_wp2_with fail
  refine (hnew _).mono ?_
  rintro e w1 ⟨rfl, hb1⟩
  have hbw1 : Below w.heap.size w w1 := ((Below.refl w.heap.size w).alloc (Nat.le_refl _) _).trans (hb1.mono (by simp))
  have hpk1 : w1.heap[w.heap.size]? = some (.cells (pkC K M O S z i q) 107 (0, 0)) := block_on (heap_alloc_new w _) hb1
  have hpw1 : w.heap.size < w1.heap.size := (Array.getElem?_eq_some_iff.1 hpk1).1
  have ht : (w1.alloc (.cells zs.toArray 92)).there w1.heap.size 0 83 := by
    have h := there_of_row (heap_alloc_new w1 (.cells zs.toArray 92))
    rwa [show zs.toArray.size = 83 from by simp [hzl]] at h
  have hst := storeCells_run w1.heap.size cs (w1.alloc (.cells zs.toArray 92)) (by rw [hcl]; exact ht) hone
  have hbx := hnb w1 zs hzl
  have hbW : Below w.heap.size w ((w1.alloc (.cells zs.toArray 92)).setCells w1.heap.size 0 cs) := below_setCells (hbw1.alloc hbw1.size _) hbw1.size _ _
  have hpkW : ((w1.alloc (.cells zs.toArray 92)).setCells w1.heap.size 0 cs).heap[w.heap.size]? = some (.cells (pkC K M O S z i q) 107 (0, 0)) := by
    rw [heap_setCells_far _ _ _ _ _ (by omega), heap_alloc_old _ _ hpw1]; exact hpk1
  generalize hW : (w1.alloc (.cells zs.toArray 92)).setCells w1.heap.size 0 cs = W at *
  have hcW := hc.on (Nat.le_refl _) hbW
  have hrl := hbx.lt
  obtain ⟨c0, c1, c2, c3, c4, c5, c6⟩ := pk_cells hpkW
  clear ht hb1 hnew hone hpk1 hnb hzl hbw1 hc
  go_wp2_with fail
  refine (hput _ w1.heap.size hbx).mono ?_
  rintro e w2 ⟨rfl, hbx2, hcg2⟩
  have hpk2 : w2.heap[w.heap.size]? = some (.cells (pkC K M O S z i q) 107 (0, 0)) := by rw [hcg2.block _ (by omega) (by omega)]; exact hpkW
  have hc2 := hcW.block (hcg2.block p (by omega) (by omega))
  have hb2 : Below w.heap.size w w2 := below_chg hbW hcg2 (fun k hk => by omega)
  clear c0 c1 c2 c3 c4 c5 c6 hput hbx hcW hpkW hbW hcg2 hst
  obtain ⟨c0, c1, c2, c3, c4, c5, c6⟩ := pk_cells hpk2
  rcases hee with rfl | rfl
  · have hrg := boxL_range hbx2
    have hbu := cat_build K M O S z (K + M) (ofs K M O S) k2
    have hst := storeCells_at p o (catL K M O S z (K + M) (ofs K M O S) k2) w2 (by rw [catL_length]; exact hc2.there) (catL_one _ _ _ _ _ _ _ _)
    have hfin := cat_stored hc2 K M O S z (K + M) (ofs K M O S) k2
    have hcf := chg_setCells (Chg.of_below hb2 (fun k => k = p)) (b := p) rfl o (catL K M O S z (K + M) (ofs K M O S) k2)
    have hbl := boxL_length K (K + M) z (ofs K M O S) k2
    have hcl2 := catL_length K M O S z (K + M) (ofs K M O S) k2
    generalize catL K M O S z (K + M) (ofs K M O S) k2 = cc at *
    generalize boxL K (K + M) z (ofs K M O S) k2 = bb at *
    have hii : (Try.prog.info? 92).map (·.size) = some bb.length := by rw [hbl]; exact Try.sizeBox
    have HF := hide (And.intro hfin hcf)
    clear hfin hcf hbx2 hc2
    go_wp2_with (refine wpList_load_mid rfl 92 (.tmp 5) rfl w1.heap.size 0 rfl bb _ hrg Try.underlying92 rfl hii ?_)
    go_ret
    first | exact ⟨rfl, fun _ => HF.out.1, fun h => absurd rfl h, HF.out.2⟩ | exact ⟨rfl, HF.out.1, HF.out.2⟩
  · have hcf := Chg.of_below hb2 (fun k => k = p)
    go_wp2_with fail
    go_ret
    first | exact ⟨rfl, fun h => absurd h (by decide), fun _ => hb2, hcf⟩ | exact ⟨rfl, hb2, hcf⟩

end Go.Proofs.Ytnjaofkieajnlaa
