/- The document's own Mail. -/
import Derived.Test.YtnjaofkieajnlaaMailR
import Derived.Deep.RegionHeld3
namespace Go.Proofs.Ytnjaofkieajnlaa
open Go.RowKit

theorem chg_under {S : Nat → Prop} {w wr w2 : World} (h : Below w.heap.size w wr) (hc : Chg S wr w2) (hs : ∀ k, S k → w.heap.size ≤ k) : Below w.heap.size w w2 :=
  ⟨hc.os.trans h.os, hc.tape.trans h.tape, hc.output.trans h.output, Nat.le_trans h.size hc.size, fun k hk => (hc.block k (Nat.lt_of_lt_of_le hk h.size) (fun s => by have := hs k s; omega)).trans (h.block k hk)⟩

/-- The large object of a specification may be. -/
structure MailOk (K M O S z : Nat) (t : ByteArray) (x : Nat) : Prop where
  spec : SpecOk K M O S z
  three : 3 ≤ K * z
  parts : partsN t (K * z - 2) ≤ 20
  order : x ≤ 65535

/-- The sheets, in the order that is drawn. -/
def mailL (K M O S z : Nat) (t : ByteArray) (x : Nat) : List ByteArray :=
  mixFrom ByteArray.empty x (sheetsTo K M O S z (partsN t (K * z - 2)) t (partsN t (K * z - 2))) ((sheetsTo K M O S z (partsN t (K * z - 2)) t (partsN t (K * z - 2))).length - 1)

set_option maxRecDepth 100000 in
set_option maxHeartbeats 8000000 in
theorem rmail_ok (K M O S z : Nat) (t : ByteArray) (x : Nat) (w : World) (h : MailOk K M O S z t x) (ht : t.size ≤ 1125899906842624) :
    Calls Try.prog 44 #[specV K M O S, .int .i64 (z : Int), .string t, .int .i64 (x : Int)] w fun e w' => ∃ v, e = .returned (.tuple #[v, .int .i64 0]) ∧ w'.ownsRow w.heap.size 9 1 v (mailL K M O S z t x).length (textV (mailL K M O S z t x)) ∧ Below w.heap.size w w' := by
  obtain ⟨⟨hK, hM, hO, hS, hz⟩, h3, hps, hx⟩ := h
  have hN2 : K * z ≤ 320 := Nat.le_trans (Nat.mul_le_mul hK.2 hz.2) (by decide)
  have hmul : (K : Int) * (z : Int) - 2 = ((K * z - 2 : Nat) : Int) := by
    have : (K : Int) * (z : Int) = ((K * z : Nat) : Int) := by simp
    rw [this]; omega
  have hm1 : 0 ≤ (K : Int) * (z : Int) := by omega
  have hm2 : (K : Int) * (z : Int) ≤ 320 := by omega
  have hma := fun W => may_below K M O S W
  have hmay : mayB K M O S = true := by simp [mayB]; omega
  rw [hmay] at hma
  obtain ⟨n, hn⟩ : ∃ n, n = K * z - 2 := ⟨_, rfl⟩
  have hnb : 1 ≤ n ∧ n ≤ 318 := by omega
  have hpa := fun W => rparts_any t n W (by omega) ht
  have hse := fun p (hp : p < partsN t n) W => rsend_ok K M O S z (partT t n p) W hK hM hO hS hz (by have := (partT_in t n p hnb.1 hp).2; omega)
  have hsz : ∀ p, p < partsN t n → (partT t n p).size + 2 ≤ K * z := fun p hp => by have := (partT_in t n p hnb.1 hp).2; omega
  have hpt := fun p (hp : p < partsN t n) (hp2 : p ≤ 20) W => rpart_any t n p W (by omega) hp2 (partT_in t n p hnb.1 hp).1 ht
  have hc1 := partsN_pos t n hnb.1
  have hml : mailL K M O S z t x = mixFrom ByteArray.empty x (sheetsTo K M O S z (partsN t n) t (partsN t n)) ((sheetsTo K M O S z (partsN t n) t (partsN t n)).length - 1) := by unfold mailL; rw [← hn]
  have hst : ∀ p, sheetsTo K M O S z (partsN t n) t (p + 1) = sheetsTo K M O S z (partsN t n) t p ++ sheetTo p (partsN t n) (packTo K M O S z (objWord K M O S z (partT t n p)) (K + M)) (K + M) := fun p => by
    show sheetsTo K M O S z (partsN t n) t p ++ sheetTo p (partsN t n) (partL K M O S z t p) (K + M) = _
    unfold partL
    rw [← hn]
  rw [← hn] at hmul hps
  have hlen := fun p => sheetsTo_length K M O S z (partsN t n) t p
  rw [hml]
  have Hst := hide hst
  have Hmul := hide hmul
  have Hlen := hide hlen
  clear hml hst hlen hmay hmul hn
  generalize partsN t n = c at *
  obtain ⟨j0, gi, gz0, gz1, gz2⟩ := info_parts Try.infoText
  have hsp : (w.alloc (specB K M O S)).heap[w.heap.size]? = some (specB K M O S) := heap_alloc_new w _
  have hbA : Below w.heap.size w (w.alloc (specB K M O S)) := (Below.refl _ _).alloc (Nat.le_refl _) _
  have z1 : ¬ (z : Int) < 1 := by omega
  have z2 : ¬ (16 : Int) < (z : Int) := by omega
  have o1 : ¬ (x : Int) < 0 := by omega
  have o2 : ¬ (65535 : Int) < (x : Int) := by omega
  have n1 : ¬ (n : Int) < 1 := by omega
  have p1 : ¬ (20 : Int) < (c : Int) := by omega
  go_enter Try.func44, Try.ntmps44
  go_wp2_with fail
  refine (hma _).mono ?_
  rintro e w1 ⟨rfl, hb1⟩
  have hs1 := block_on hsp hb1
  have hbw1 := hbA.trans (hb1.mono hbA.size)
  have hsz1 : w.heap.size < w1.heap.size := (Array.getElem?_eq_some_iff.1 hs1).1
  clear hsp hbA hb1 hma
  obtain ⟨c0, c1, c2, c3⟩ := spec_cells hs1
  go_upto_region 7 with fail
  rw [Hmul.out]
  clear c0 c1 c2 c3
  go_wp2_with fail
  refine (hpa _).mono ?_
  rintro e W1 ⟨rfl, rfl⟩
  go_wp2_with fail
  refine (hpa _).mono ?_
  rintro e W2 ⟨rfl, rfl⟩
  clear hpa
  go_wp2_with fail
  go_loopw [12, 54] (fun av pv wr => ∃ p : Nat, p ≤ c ∧ pv = .int .i64 (p : Int) ∧ wr.ownsRow (w.heap.size + 1) 9 1 av (sheetsTo K M O S z c t p).length (textV (sheetsTo K M O S z c t p)) ∧ wr.heap[w.heap.size]? = some (specB K M O S) ∧ Below w.heap.size w wr) (fun _ pv _ => c - (intOf pv).toNat)
  case atStart => exact ⟨0, Nat.zero_le _, rfl, World.ownsRow_nil _ _ _ _, hs1, hbw1⟩
  case round =>
    clear hs1 hbw1
    obtain ⟨p, hpc, rfl, hown, hsr, hbr⟩ := hrel
    have hszr : w.heap.size < wr.heap.size := (Array.getElem?_eq_some_iff.1 hsr).1
    have hlp := Hlen.out p
    have hlb : (sheetsTo K M O S z c t p).length ≤ 800 := by rw [hlp]; exact Nat.le_trans (Nat.mul_le_mul (show p ≤ 20 by omega) (show K + M ≤ 40 by omega)) (by decide)
    clear hlp
    by_cases hlt : p < c
    · have hs := hse p hlt
      have hp := hpt p hlt (by omega)
      have hstp := Hst.out p
      have hLl := packTo_length K M O S z (objWord K M O S z (partT t n p)) (K + M)
      have hLs := fun i (hi : i < K + M) => packTo_sizes (K := K) (M := M) (O := O) (S := S) (z := z) (o := partT t n p) (hsz p hlt) hi
      generalize packTo K M O S z (objWord K M O S z (partT t n p)) (K + M) = L at *
      generalize partT t n p = pt at *
      have Hstp := hide hstp
      clear hstp
      obtain ⟨c0, c1, c2, c3⟩ := spec_cells hsr
      obtain ⟨all0, hall0⟩ : ∃ l, l = sheetsTo K M O S z c t p := ⟨_, rfl⟩
      rw [← hall0] at hown hlb Hstp
      clear hall0
      go_wp2_with fail
      go_region_held3 (fun w' => w'.cell? ⟨w.heap.size, 0, none⟩ = some (.int .i64 (K : Int)) ∧ w'.cell? ⟨w.heap.size, 1, none⟩ = some (.int .i64 (M : Int)) ∧ w'.cell? ⟨w.heap.size, 2, none⟩ = some (.int .i64 (O : Int)) ∧ w'.cell? ⟨w.heap.size, 3, none⟩ = some (.int .i64 (S : Int)))
        (first | (exact ⟨d0, d1, d2, d3⟩) | (exact ⟨c0, c1, c2, c3⟩) | go_keep)
        (first
          | (go_at_call 66; refine (hp _).mono ?_; rintro e w2 ⟨rfl, h2⟩; obtain rfl := h2.symm)
          | (go_at_call 42; refine (hs _).mono ?_; rintro e w3 ⟨v3, rfl, hown3, hb3⟩; obtain ⟨d0, d1, d2, d3⟩ := spec_cells (block_on (w := wr.drew) hsr hb3)))
      obtain ⟨g, gcap, rfl, hg, hgl⟩ := hown3.form (by omega)
      have hTc : ∀ k, k < K + M → w3.cell? ⟨g, k, none⟩ = some (.string (L.getD k ByteArray.empty)) := fun k hk => by
        have := hown3.cells (g := g) rfl k (.string (L.getD k ByteArray.empty)) (by unfold textV; rw [List.getElem?_map, List.getElem?_eq_getElem (by omega), List.getD_eq_getElem?_getD, List.getElem?_eq_getElem (by omega)]; rfl)
        rwa [Addr.add_mid, Nat.zero_add] at this
      have hown4 : w3.ownsRow (w.heap.size + 1) 9 1 u12 all0.length (textV all0) := owns_below (w := wr.drew) hown.drew hb3
      have hs3 : w3.heap[w.heap.size]? = some (specB K M O S) := block_on (w := wr.drew) hsr hb3
      have hbr3 : Below w.heap.size w w3 := hbr.drew.trans (Below.mono hb3 hbr.size)
      have hub : ∀ k, u12.ownBlock = some k → w.heap.size + 1 ≤ k ∧ k < g := fun k hk => by
        have h1 := hown.lt k hk
        have h2 : wr.heap.size ≤ g := hg
        omega
      have hsz3 : wr.heap.size ≤ w3.heap.size := hb3.size
      obtain ⟨ob, hob⟩ : ∃ ob, ob = u12.ownBlock := ⟨_, rfl⟩
      rw [← hob] at hub
      have HTc := hide hTc
      have HLs := hide hLs
      clear hTc hLs d0 d1 d2 d3 c0 c1 c2 c3 hown3 hb3 hown hsr hbr h2 hp hs
      rename_i hheld
      clear hheld
      go_wp2_with fail
      go_loopw [12, 69] (fun av iv wi => ∃ i : Nat, i ≤ K + M ∧ iv = .int .i64 (i : Int) ∧ wi.ownsRow (w.heap.size + 1) 9 1 av (all0.length + i) (textV (all0 ++ sheetTo p c L i)) ∧ (∀ k, av.ownBlock = some k → ob = some k ∨ w3.heap.size ≤ k) ∧ Chg (fun k => ob = some k) w3 wi) (fun _ iv _ => K + M - (intOf iv).toNat)
      case atStart => exact ⟨0, Nat.zero_le _, rfl, by show w3.ownsRow _ _ _ _ _ (textV (all0 ++ [])); rw [List.append_nil]; exact hown4, fun k hk => Or.inl (by rw [hob]; exact hk), Chg.refl _ _⟩
      case round =>
        clear hown4 hob
        obtain ⟨i, hi, rfl, hown, hav, hcg⟩ := hrel
        have hwis := hcg.size
        by_cases hil : i < K + M
        · have ht1 := (hcg.cell (a := ⟨g, i, none⟩) hgl (fun e => by have := hub g e; omega)).trans (HTc.out i hil)
          have hls := HLs.out i hil
          have hsn : all0 ++ sheetTo p c L (i + 1) = (all0 ++ sheetTo p c L i) ++ [sheetB p c (L.getD i ByteArray.empty)] := by rw [List.append_assoc]; rfl
          have Hsn := hide hsn
          clear hsn
          generalize L.getD i ByteArray.empty = pk at *
          have hpk : pk.size ≤ 25 := by omega
          clear hls
          have hcv := conv_block ⟨#[UInt8.ofNat p, UInt8.ofNat c]⟩ wr.heap.size #[.int .u8 (p : Int), .int .u8 (c : Int)] (wr.alloc (.cells #[.int .u8 (p : Int), .int .u8 (c : Int)] 5)) (heap_alloc_new wr _) (by
            show _ = [Value.int .u8 ((UInt8.ofNat p).toNat : Int), Value.int .u8 ((UInt8.ofNat c).toNat : Int)].toArray
            rw [ofNat_u8 p (by omega), ofNat_u8 c (by omega)])
          have hcv' : (convert 53 9 (.slice (some ⟨wr.heap.size, 0, none⟩) 2 2)).run Try.prog (wr.alloc (.cells #[.int .u8 (p : Int), .int .u8 (c : Int)] 5)) = .ok (.string ⟨#[UInt8.ofNat p, UInt8.ofNat c]⟩) _ := hcv
          obtain ⟨B, hB⟩ : ∃ B, B = ByteArray.mk #[UInt8.ofNat p, UInt8.ofNat c] := ⟨_, rfl⟩
          have hsh : sheetB p c pk = ⟨#[83]⟩ ++ B ++ pk := by rw [hB]; rfl
          have hBs : B.size = 2 := by rw [hB]; rfl
          rw [← hB] at hcv'
          rw [hsh] at Hsn
          clear hcv hB hsh
          have i1 : (0 : Int) ≤ (i : Int) := by omega
          have i2 : (i : Int) < (K : Int) + (M : Int) := by omega
          have pb1 : (p : Int) < 256 := by omega
          have pb2 : (c : Int) < 256 := by omega
          obtain ⟨T, hT⟩ : ∃ T, T = ByteArray.mk #[83] ++ B ++ pk := ⟨_, rfl⟩
          rw [← hT] at Hsn
          have HT := hide hT
          clear hT
          go_wp2_with (first | (rw [← HT.out]) | (at_builtin; refine wpList_append_lies _ rfl (.tmp 73) (.tmp 83) 28 rfl (w.heap.size + 1) 9 j0 (.string ByteArray.empty) 1 16 Try.underlying28 gi gz0 gz1 gz2 rfl (by decide) _ _ _ rfl ((hown.alloc _).alloc _) ⟨wr.heap.size + 1, 0, none⟩ 1 1 [.string T] rfl rfl (World.news_of_block (cs := #[_]) (heap_alloc2p wr _ _)) (one_oneCell rfl) (by decide) (by unfold maxLen; omega) (by omega) (by simp; omega) (wr.heap.size + 1 + 1) (by simp) ?_))
          intro g5 cap5 w5 hown5 hgr5 hat5 hlt5
          have hgr := grownBy_of_alloc (grownBy_of_alloc hgr5)
          have hcg5 : Chg (fun k => ob = some k) w3 w5 := hcg.grown hgr (fun k e => by
            rcases hav k e with h | h
            · exact Or.inr h
            · exact Or.inl h)
          have hav5 : ∀ k, (Value.slice (some ⟨g5, 0, none⟩) (all0.length + i + 1) cap5).ownBlock = some k → ob = some k ∨ w3.heap.size ≤ k := fun k hk => by
            have hk' : g5 = k := by simpa [Value.ownBlock] using hk
            rcases hat5 with h | h
            · exact hav k (by rw [h, hk'])
            · right; omega
          clear hown hcg hgr5 hgr hat5 ht1 hcv' hav
          go_wp2_with fail
          go_roundw
          case rel => exact ⟨i + 1, by omega, by go_num, by rw [Hsn.out, textV_append]; exact hown5, hav5, hcg5⟩
          case measure => simp [intOf]; omega
        · have hii : i = K + M := by omega
          have hbwi : Below w.heap.size w wr := chg_under hbr3 hcg (fun k e => by have := hub k e; omega)
          have hsi : wr.heap[w.heap.size]? = some (specB K M O S) := (hcg.block _ (by omega) (fun e => by have := hub _ e; omega)).trans hs3
          rw [hii, ← Hstp.out] at hown
          have hlen2 : all0.length + (K + M) = (sheetsTo K M O S z c t (p + 1)).length := by rw [Hstp.out, List.length_append, sheetTo_length]
          rw [hlen2] at hown
          clear hlen2
          have i5 : ¬ (i : Int) < (K : Int) + (M : Int) := by omega
          clear hcg hii hav hi hil
          go_wp2_with fail
          go_roundw
          case rel => exact ⟨p + 1, by omega, by go_num, hown, hsi, hbwi⟩
          case measure => simp [intOf]; omega
    · have hpc2 : p = c := by omega
      have hl1 : 1 ≤ (sheetsTo K M O S z c t p).length := by rw [Hlen.out p]; exact Nat.mul_pos (by omega) (by omega)
      have hmx := fun W h => rmixed_any u12 (sheetsTo K M O S z c t p) x W h (by omega) (by omega)
      have htx := owns_texts hown rfl
      have i5 : ¬ (p : Int) < (c : Int) := by omega
      rw [hpc2] at hmx htx
      have hll := mixFrom_length ByteArray.empty x (sheetsTo K M O S z c t c) ((sheetsTo K M O S z c t c).length - 1)
      obtain ⟨R, hR⟩ : ∃ R, R = mixFrom ByteArray.empty x (sheetsTo K M O S z c t c) ((sheetsTo K M O S z c t c).length - 1) := ⟨_, rfl⟩
      rw [← hR] at hmx hll
      have HR := hide hR
      have HLL := hide hll
      clear hll hpc2 hown hl1 hlb hR
      go_wp2_with fail
      refine (hmx _ htx).mono ?_
      rintro e w2 ⟨v2, rfl, hown2, hb2⟩
      have hend := hbr.trans (hb2.mono hbr.size)
      have hown3 := owns_low hown2 hbr.size
      rw [← HLL.out] at hown3
      clear hmx htx hown2 hb2
      go_wp2_with fail
      go_ret2
      exact ⟨_, rfl, by rw [← HR.out]; exact hown3, hend⟩

end Go.Proofs.Ytnjaofkieajnlaa
