/- The program's large objects: the text of a sheet, a text cut into parts, the order that is drawn. -/
import Derived.Test.YtnjaofkieajnlaaPSend
import Derived.Test.YtnjaofkieajnlaaCutM
import Derived.Laws.OwnMore
namespace Go.Proofs.Ytnjaofkieajnlaa
open Go.RowKit

set_option maxRecDepth 100000 in
set_option maxHeartbeats 4000000 in
theorem ltext_any (p c : Nat) (k : ByteArray) (w : World) (hp : p ≤ 255) (hc : c ≤ 255) (hk : k.size ≤ 1000) :
    Calls Try.prog 96 #[.int .i64 (p : Int), .int .i64 (c : Int), .string k] w fun e w' => e = .returned (.string (sheetB p c k)) ∧ Below w.heap.size w w' := by
  have hcv := conv_block ⟨#[83, UInt8.ofNat p, UInt8.ofNat c]⟩ w.heap.size #[.int .u8 83, .int .u8 (p : Int), .int .u8 (c : Int)] (w.alloc (.cells #[.int .u8 83, .int .u8 (p : Int), .int .u8 (c : Int)] 5)) (heap_alloc_new w _) (by
    show _ = [Value.int .u8 83, Value.int .u8 ((UInt8.ofNat p).toNat : Int), Value.int .u8 ((UInt8.ofNat c).toNat : Int)].toArray
    rw [ofNat_u8 p (by omega), ofNat_u8 c (by omega)])
  have hcv' : (convert 53 9 (.slice (some ⟨w.heap.size, 0, none⟩) 3 3)).run Try.prog (w.alloc (.cells #[.int .u8 83, .int .u8 (p : Int), .int .u8 (c : Int)] 5)) = .ok (.string ⟨#[83, UInt8.ofNat p, UInt8.ofNat c]⟩) _ := hcv
  have hsh : sheetB p c k = ⟨#[83, UInt8.ofNat p, UInt8.ofNat c]⟩ ++ k := rfl
  have hbs : (ByteArray.mk #[83, UInt8.ofNat p, UInt8.ofNat c]).size = 3 := rfl
  have pb1 : (p : Int) < 256 := by omega
  have pb2 : (c : Int) < 256 := by omega
  rw [hsh]
  clear hsh hcv
  generalize ByteArray.mk #[83, UInt8.ofNat p, UInt8.ofNat c] = B at *
  go_enter Try.func96, Try.ntmps96
  go_wp2_with fail
  go_ret
  exact ⟨rfl, (Below.refl _ _).alloc (Nat.le_refl _) _⟩

theorem chg_under2 {S : Nat → Prop} {w wr w2 : World} (h : Below w.heap.size w wr) (hc : Chg S wr w2) (hs : ∀ k, S k → w.heap.size ≤ k) : Below w.heap.size w w2 :=
  ⟨hc.os.trans h.os, hc.tape.trans h.tape, hc.output.trans h.output, Nat.le_trans h.size hc.size, fun k hk => (hc.block k (Nat.lt_of_lt_of_le hk h.size) (fun s => by have := hs k s; omega)).trans (h.block k hk)⟩

/-- How long a text is. -/
def strLen (v : Value) : Nat := match v with
  | .string t => t.size
  | _ => 0

set_option maxRecDepth 100000 in
set_option maxHeartbeats 8000000 in
theorem lcut_any (t : ByteArray) (n : Nat) (w : World) (hn : 1 ≤ n ∧ n ≤ 1000) (ht : t.size ≤ 100000) :
    Calls Try.prog 81 #[.string t, .int .i64 (n : Int)] w fun e w' => ∃ v, e = .returned v ∧ w'.ownsRow w.heap.size 9 1 v (partsN t n) (textV (cutL t n (partsN t n))) ∧ Below w.heap.size w w' := by
  obtain ⟨j0, gi, gz0, gz1, gz2⟩ := info_parts Try.infoText
  have hmk : ∀ w, (Instr.makeSlice 28 (.int .i64 0) (.int .i64 20)).run Try.prog w = .ok (.slice (some ⟨w.heap.size, 0, none⟩) 0 20) (w.alloc (.cells (madeCells #[.string ByteArray.empty] 20) 9)) := run_make_texts 20 (by omega)
  have hz0 := restT_zero t n
  have hmore := fun p h => rest_more (t := t) (n := n) (p := p) hn.1 h
  have hlast := fun p h h2 => rest_last (t := t) (n := n) (p := p) h hn.1 h2
  have hfst := fun p h => rest_first (t := t) (n := n) (p := p) h
  have hnxt := fun p => rest_next (t := t) (n := n) (p := p)
  have hrs := fun p => restT_size t n p
  have hsu := cutL_succ t n
  have H0 := hide hz0
  have HM := hide hmore
  have HL := hide hlast
  have HF := hide hfst
  have HN := hide hnxt
  have HR := hide hrs
  have HS := hide hsu
  clear hz0 hmore hlast hfst hnxt hrs hsu
  go_enter Try.func81, Try.ntmps81
  go_upto_region 2 with fail
  have hst : (w.alloc (.cells (madeCells #[.string ByteArray.empty] 20) 9)).ownsRow w.heap.size 9 1 (.slice (some ⟨w.heap.size, 0, none⟩) 0 20) 0 (textV (cutL t n 0)) := World.ownsRow_made (base := w.heap.size) (e := 9) (size := 1) w (madeCells #[.string ByteArray.empty] 20) 20 (Nat.le_refl _) (by unfold maxLen; omega) (by simp [size_madeCells])
  have hbS : Below w.heap.size w (w.alloc (.cells (madeCells #[.string ByteArray.empty] 20) 9)) := (Below.refl _ _).alloc (Nat.le_refl _) _
  generalize w.alloc (.cells (madeCells #[.string ByteArray.empty] 20) 9) = W at *
  clear hmk
  go_wp2_with fail
  go_loopw [0, 5] (fun tv pv wr => ∃ p : Nat, (p = 0 ∨ p * n < t.size) ∧ tv = .string (restT t n p) ∧ wr.ownsRow w.heap.size 9 1 pv p (textV (cutL t n p)) ∧ Below w.heap.size w wr) (fun tv _ _ => strLen tv)
  case atStart => exact ⟨0, Or.inl rfl, by rw [H0.out], hst, hbS⟩
  case round =>
    clear hst hbS
    obtain ⟨p, hp, rfl, hown, hbr⟩ := hrel
    have hsw := hbr.size
    have hps : p ≤ 100000 := by
      rcases hp with rfl | h
      · omega
      · have := Nat.le_mul_of_pos_right p (show 0 < n by omega); omega
    have hsz := HR.out p
    have n0 : (0 : Int) < (n : Int) := by omega
    by_cases hlt : p * n + n < t.size
    · have l1 : (n : Int) < ((restT t n p).size : Int) := by omega
      have l2 : (n : Int) ≤ ((restT t n p).size : Int) := by omega
      have l3 : (0 : Int) ≤ (n : Int) := by omega
      have hr2 := HN.out p
      have hf2 := HF.out p (by omega)
      have hs2 := HS.out p
      have hsz2 := HR.out (p + 1)
      have hps2 : (p + 1) * n < t.size := by rw [Nat.succ_mul]; omega
      generalize hR : restT t n p = R at *
      generalize hR2 : restT t n (p + 1) = R2 at *
      generalize hP2 : partT t n p = P2 at *
      have HF2 := hide hf2
      have HR2 := hide hr2
      have HS2 := hide hs2
      have Hm := hide (show R2.size < R.size by rw [hsz, hsz2, Nat.succ_mul]; omega)
      have HRR := hide hR2
      have HPP := hide (And.intro hps2 hsz2)
      clear hf2 hr2 hs2 hR hR2 hP2 hsz2 hps2 hsz hlt hp
      go_wp2_with (first | (rw [HF2.out]) | (at_builtin; refine wpList_append_lies _ rfl (.tmp 15) (.tmp 19) 28 rfl w.heap.size 9 j0 (.string ByteArray.empty) 1 16 Try.underlying28 gi gz0 gz1 gz2 rfl (by decide) _ _ _ rfl (hown.alloc _) ⟨wr.heap.size, 0, none⟩ 1 1 [.string P2] rfl rfl (one_news _ _ _) (one_oneCell rfl) (by decide) (by unfold maxLen; omega) (by omega) (by simp; omega) (wr.heap.size + 1) (by simp) ?_))
      intro g6 k6 W6 hown6 hgr6 hat6 hlt6
      have hb6 := below_own hown hgr6 hsw
      have hbi6 := hbr.trans hb6
      clear hgr6 hat6 hlt6 hb6 hbr hown
      go_wp2_with (rw [HR2.out])
      go_roundw
      case rel => exact ⟨p + 1, Or.inr HPP.out.1, by rw [HRR.out], by rw [HS2.out, textV_append]; exact hown6, hbi6⟩
      case measure => exact Hm.out
    · have l1 : ¬ (n : Int) < ((restT t n p).size : Int) := by omega
      obtain ⟨hpn, hpt⟩ := HL.out p hp (by omega)
      have hs2 := HS.out p
      rw [hpt] at hs2
      generalize restT t n p = R at *
      have HE := hide (And.intro hpn hs2)
      clear hpn hpt hs2 hsz hlt hp
      go_wp2_with (at_builtin; refine wpList_append_lies _ rfl (.tmp 24) (.tmp 26) 28 rfl w.heap.size 9 j0 (.string ByteArray.empty) 1 16 Try.underlying28 gi gz0 gz1 gz2 rfl (by decide) _ _ _ rfl (hown.alloc _) ⟨wr.heap.size, 0, none⟩ 1 1 [.string R] rfl rfl (one_news _ _ _) (one_oneCell rfl) (by decide) (by unfold maxLen; omega) (by omega) (by simp; omega) (wr.heap.size + 1) (by simp) ?_)
      intro g6 k6 W6 hown6 hgr6 hat6 hlt6
      have hb6 := below_own hown hgr6 hsw
      have hbi6 := hbr.trans hb6
      clear hgr6 hat6 hlt6 hb6 hbr hown
      go_wp2_with fail
      go_ret
      exact ⟨_, rfl, by rw [HE.out.1, HE.out.2, textV_append]; exact hown6, hbi6⟩

end Go.Proofs.Ytnjaofkieajnlaa
