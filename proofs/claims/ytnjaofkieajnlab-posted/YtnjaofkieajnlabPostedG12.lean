/- Texts of the proof, part 13. -/
import Derived.BigRegion
import Derived.Laws.ResultCell
import Derived.Test.YtnjaofkieajnlabPostedG10
import Derived.Test.YtnjaofkieajnlabPostedG11
import Derived.Test.YtnjaofkieajnlabPostedG6

/- The document's own Put. -/
namespace Go.Proofs.Ytnjaofkieajnlab
open Go.RowKit

end Go.Proofs.Ytnjaofkieajnlab

namespace Go.Proofs.Ytnjaofkieajnlab
open Go.RowKit

end Go.Proofs.Ytnjaofkieajnlab

/- The document's own Need. -/
namespace Go.Proofs.Ytnjaofkieajnlab
open Go.RowKit

/-- The pieces of the copy that Need fills, ahead of place i. -/
def needPs (K M O S z : Nat) (ps : List (Nat × ByteArray)) : Nat → List (Nat × ByteArray)
  | 0 => ps
  | i + 1 => if (told (boxFacts K M O S z (needPs K M O S z ps i)) (2 ^ i) z).2 then needPs K M O S z ps i else needPs K M O S z ps i ++ [(i, zeroB z)]

theorem boxFacts_snoc (K M O S z : Nat) (ps : List (Nat × ByteArray)) (i : Nat) (t : ByteArray) : boxFacts K M O S z (ps ++ [(i, t)]) = boxFacts K M O S z ps ++ [(2 ^ i, t)] := by
  unfold boxFacts putFacts
  rw [List.map_append, ← List.append_assoc]; rfl

theorem needPs_facts (K M O S z : Nat) (ps : List (Nat × ByteArray)) (i : Nat) : (needTo (boxFacts K M O S z ps) z i).1 = boxFacts K M O S z (needPs K M O S z ps i) := by
  induction i with
  | zero => rfl
  | succ i ih =>
    show (if (told (needTo (boxFacts K M O S z ps) z i).1 (2 ^ i) z).2 = true then needTo (boxFacts K M O S z ps) z i else ((needTo (boxFacts K M O S z ps) z i).1 ++ [(2 ^ i, zeroB z)], (needTo (boxFacts K M O S z ps) z i).2 + 1)).1 = boxFacts K M O S z (if (told (boxFacts K M O S z (needPs K M O S z ps i)) (2 ^ i) z).2 = true then needPs K M O S z ps i else needPs K M O S z ps i ++ [(i, zeroB z)])
    rw [ih]
    split
    · exact ih
    · rw [boxFacts_snoc]

theorem needTo_succ (K M O S z : Nat) (ps : List (Nat × ByteArray)) (i : Nat) : (needTo (boxFacts K M O S z ps) z (i + 1)).2 = if (told (boxFacts K M O S z (needPs K M O S z ps i)) (2 ^ i) z).2 = true then (needTo (boxFacts K M O S z ps) z i).2 else (needTo (boxFacts K M O S z ps) z i).2 + 1 := by
  show (if (told (needTo (boxFacts K M O S z ps) z i).1 (2 ^ i) z).2 = true then needTo (boxFacts K M O S z ps) z i else ((needTo (boxFacts K M O S z ps) z i).1 ++ [(2 ^ i, zeroB z)], (needTo (boxFacts K M O S z ps) z i).2 + 1)).2 = _
  rw [needPs_facts]
  split <;> rfl

theorem needTo_le (F : List Fct) (z i : Nat) : (needTo F z i).2 ≤ i := by
  induction i with
  | zero => exact Nat.le_refl _
  | succ i ih =>
    show (if (told (needTo F z i).1 (2 ^ i) z).2 = true then needTo F z i else ((needTo F z i).1 ++ [(2 ^ i, zeroB z)], (needTo F z i).2 + 1)).2 ≤ i + 1
    split
    · omega
    · show (needTo F z i).2 + 1 ≤ i + 1; omega

theorem needPs_len (K M O S z : Nat) (ps : List (Nat × ByteArray)) (i : Nat) : (needPs K M O S z ps i).length ≤ ps.length + i := by
  induction i with
  | zero => exact Nat.le_refl _
  | succ i ih =>
    show (if _ then needPs K M O S z ps i else needPs K M O S z ps i ++ [(i, zeroB z)]).length ≤ _
    split
    · omega
    · rw [List.length_append]; simp; omega

theorem needPs_in (K M O S z : Nat) (ps : List (Nat × ByteArray)) (h : ∀ x ∈ ps, x.1 < K + M ∧ x.2.size = z) (i : Nat) (hi : i ≤ K + M) : ∀ x ∈ needPs K M O S z ps i, x.1 < K + M ∧ x.2.size = z := by
  induction i with
  | zero => exact h
  | succ i ih =>
    intro x hx
    have hx' : x ∈ (if (told (boxFacts K M O S z (needPs K M O S z ps i)) (2 ^ i) z).2 = true then needPs K M O S z ps i else needPs K M O S z ps i ++ [(i, zeroB z)]) := hx
    split at hx'
    · exact ih (by omega) x hx'
    · rcases List.mem_append.1 hx' with hx' | hx'
      · exact ih (by omega) x hx'
      · simp at hx'; subst hx'; exact ⟨by show i < K + M; omega, zeroB_size z⟩

end Go.Proofs.Ytnjaofkieajnlab

namespace Go.Proofs.Ytnjaofkieajnlab
open Go.RowKit

theorem owns_news {w : World} {base : Nat} {e : TypeId} {g n cap : Nat} {xs : List Value} (h : w.ownsRow base e 1 (.slice (some ⟨g, 0, none⟩) n cap) n xs) : ∀ j u, xs[j]? = some u → w.cell? ((⟨g, 0, none⟩ : Addr).add j) = some u := by
  intro j u hu
  rw [Addr.add_mid, Nat.zero_add]
  rcases h.2 with ⟨h0, _⟩ | ⟨g', cap', cur, he, _, hg, hc, _, _, ht⟩
  · cases h0
  · have : g' = g := by simp at he; exact he.1.symm
    subst this
    rw [cell_of_row _ _ _ _ _ _ hg]
    rw [← ht, List.getElem?_take] at hu
    split at hu
    · simpa using hu
    · cases hu

/-- A call that leaves the world as it was, at a step of a region that draws its order. -/
theorem step_call {P : Program} {w : World} {ops : Array Oper} {o : Oper} {a : Act} {K : Act → World → Prop} {Q : Exit → Act → World → Prop} {E : Prop} (hgd : o.guard = none) (f : FuncId) (args : Array Value) (hrun : (execOp a.eval o).run P w = .ok (.enter f args) w) (v : Value)
    (hc : Calls P f args w fun e w' => e = .returned v ∧ w' = w) (h : K (a.put o.dst v) w) : if Region.wanted o (yielded ops a.tmps) = true then Oper.wp P o a w K Q else E := by
  have hw : Region.wanted o (yielded ops a.tmps) = true := by simp [Region.wanted, hgd]
  rw [if_pos hw]
  unfold Oper.wp
  rw [hrun, Oper.upon_enter]
  refine hc.mono fun e w'' hh => ?_
  obtain ⟨rfl, rfl⟩ := hh
  exact h

end Go.Proofs.Ytnjaofkieajnlab

/- The document's own catcher: Wants and Object. -/
namespace Go.Proofs.Ytnjaofkieajnlab
open Go.RowKit

end Go.Proofs.Ytnjaofkieajnlab

/- The document's own catcher: its object. -/
namespace Go.Proofs.Ytnjaofkieajnlab
open Go.RowKit

/-- What is told of the first pieces. -/
def gotTo (F : Nat → ByteArray × Bool) : Nat → List ByteArray
  | 0 => []
  | i + 1 => gotTo F i ++ [(F i).1]

theorem gotTo_length (F : Nat → ByteArray × Bool) (i : Nat) : (gotTo F i).length = i := by
  induction i with
  | zero => rfl
  | succ i ih => show (gotTo F i ++ [_]).length = _; rw [List.length_append, ih]; rfl

theorem gotTo_size (F : Nat → ByteArray × Bool) (z : Nat) (h : ∀ i, (F i).1.size = z) (i : Nat) : ∀ x ∈ gotTo F i, x.size = z := by
  induction i with
  | zero => intro x hx; simp [gotTo] at hx
  | succ i ih =>
    intro x hx
    rcases List.mem_append.1 (show x ∈ gotTo F i ++ [(F i).1] from hx) with hx | hx
    · exact ih x hx
    · simp at hx; subst hx; exact h i

theorem catTo_size (l : List ByteArray) (z : Nat) (h : ∀ x ∈ l, x.size = z) (i : Nat) (hi : i ≤ l.length) : (catTo l i).size = i * z := by
  induction i with
  | zero => simp [catTo]
  | succ i ih =>
    show (catTo l i ++ l.getD i ByteArray.empty).size = _
    have hm : (l.getD i ByteArray.empty) ∈ l := by rw [List.getD_eq_getElem?_getD, List.getElem?_eq_getElem (by omega)]; exact List.getElem_mem _
    rw [ByteArray.size_append, ih (by omega), h _ hm, Nat.succ_mul]

end Go.Proofs.Ytnjaofkieajnlab

/- The document's own read: small facts. -/
namespace Go.Proofs.Ytnjaofkieajnlab
open Go.RowKit

theorem Try.sizeSpecR : (Try.prog.info? 24).map (·.size) = some 4 := by kernel_rfl

theorem spec_one (K M O S : Int) : (#[.int .i64 K, .int .i64 M, .int .i64 O, .int .i64 S] : Array Value).all (fun x => x.oneCell') = true := by
  simp [Value.oneCell']

end Go.Proofs.Ytnjaofkieajnlab

/- The document's own read: what lies in a packet. -/
namespace Go.Proofs.Ytnjaofkieajnlab
open Go.RowKit

theorem or_high (a b : Nat) (ha : a < 256) (hb : b < 256) : bits BinOp.or IntKind.i64 (a : Int) ((b : Int) * 256) = ((a + 256 * b : Nat) : Int) := by
  rw [show (b : Int) * 256 = ((b * 256 : Nat) : Int) by omega, i64_or_nat a (b * 256) (by omega) (by omega)]
  rw [Nat.or_comm, show b * 256 = 2 ^ 8 * b by omega, ← Nat.two_pow_add_eq_or_of_lt (by omega)]
  congr 1; omega

/-- What must hold of what can be read of a packet. -/
def ReadsOk (p : ByteArray) (K M O S z i : Nat) (q : ByteArray) : Prop := mayB K M O S = true ∧ i < K + M ∧ q.size = z ∧ packB K M O S z i q = p

end Go.Proofs.Ytnjaofkieajnlab

/- What is a packet: plain facts on bytes. Nothing of the program. -/
namespace Go.Proofs.Ytnjaofkieajnlab

theorem byteAt_left (a b : ByteArray) (i : Nat) (h : i < a.size) : byteAt (a ++ b) i = byteAt a i := by
  have h2 : i < (a ++ b).size := by rw [ByteArray.size_append]; omega
  rw [← byteAt_get _ _ h2, ← byteAt_get _ _ h, ByteArray.getElem_append_left h]

theorem byteAt_right (a b : ByteArray) (i : Nat) (h1 : a.size ≤ i) (h : i < a.size + b.size) : byteAt (a ++ b) i = byteAt b (i - a.size) := by
  have h2 : i < (a ++ b).size := by rw [ByteArray.size_append]; omega
  have h3 : i - a.size < b.size := by omega
  rw [← byteAt_get _ _ h2, ← byteAt_get _ _ h3, ByteArray.getElem_append_right h1]

theorem byteAt_extract (a : ByteArray) (m n i : Nat) (hn : n ≤ a.size) (h : m + i < n) : byteAt (a.extract m n) i = byteAt a (m + i) := by
  have h2 : i < (a.extract m n).size := by rw [ByteArray.size_extract]; omega
  rw [← byteAt_get _ _ h2, ← byteAt_get _ _ (show m + i < a.size by omega), ByteArray.getElem_extract]

/-- What the bytes of a text tell. -/
def rK (p : ByteArray) : Nat := (byteAt p 1).toNat
def rM (p : ByteArray) : Nat := (byteAt p 2).toNat
def rO (p : ByteArray) : Nat := (byteAt p 3).toNat
def rS (p : ByteArray) : Nat := (byteAt p 4).toNat + 256 * (byteAt p 5).toNat
def rZ (p : ByteArray) : Nat := (byteAt p 6).toNat
def rI (p : ByteArray) : Nat := (byteAt p 7).toNat
def rQ (p : ByteArray) : ByteArray := p.extract 8 (p.size - 1)

/-- A text is a packet. -/
def PacketOk (p : ByteArray) : Prop := 10 ≤ p.size ∧ p.size ≤ 25 ∧ byteAt p 0 = 82 ∧ mayB (rK p) (rM p) (rO p) (rS p) = true ∧ rI p < rK p + rM p ∧ p.size = rZ p + 9 ∧ addTo p p.size = 0

theorem addTo_congr (a b : ByteArray) (n : Nat) (h : ∀ i, i < n → byteAt a i = byteAt b i) : addTo a n = addTo b n := by
  induction n with
  | zero => rfl
  | succ n ih =>
    show addTo a n + byteAt a n = addTo b n + byteAt b n
    rw [ih (fun i hi => h i (by omega)), h n (by omega)]

theorem ofNat_byte (b : UInt8) : UInt8.ofNat b.toNat = b := by simp

/-- What is read of a text, without its last byte. -/
theorem packT_byte (p : ByteArray) (hp : 10 ≤ p.size) (h0 : byteAt p 0 = 82) : ∀ i, i < p.size - 1 → byteAt (packT (rK p) (rM p) (rO p) (rS p) (rZ p) (rI p) (rQ p)) i = byteAt p i := by
  intro i hi
  have hs : (ByteArray.mk #[82] ++ headB (rK p) (rM p) (rO p) (rS p) (rZ p) (rI p)).size = 8 := rfl
  have hq : (rQ p).size = p.size - 9 := by unfold rQ; rw [ByteArray.size_extract]; omega
  unfold packT
  by_cases h8 : i < 8
  · rw [byteAt_left _ _ _ (by rw [hs]; exact h8)]
    have e4 : UInt8.ofNat (rS p % 256) = byteAt p 4 := by
      have := (byteAt p 4).toNat_lt
      rw [show rS p % 256 = (byteAt p 4).toNat by unfold rS; omega]; simp
    have e5 : UInt8.ofNat (rS p / 256) = byteAt p 5 := by
      have := (byteAt p 4).toNat_lt
      rw [show rS p / 256 = (byteAt p 5).toNat by unfold rS; omega]; simp
    have hb : ByteArray.mk #[82] ++ headB (rK p) (rM p) (rO p) (rS p) (rZ p) (rI p) = ⟨#[82, byteAt p 1, byteAt p 2, byteAt p 3, byteAt p 4, byteAt p 5, byteAt p 6, byteAt p 7]⟩ := by
      unfold headB rK rM rO rZ rI
      rw [e4, e5, ofNat_byte, ofNat_byte, ofNat_byte, ofNat_byte, ofNat_byte]; rfl
    rw [hb]
    have h8' : i = 0 ∨ i = 1 ∨ i = 2 ∨ i = 3 ∨ i = 4 ∨ i = 5 ∨ i = 6 ∨ i = 7 := by omega
    rcases h8' with rfl | rfl | rfl | rfl | rfl | rfl | rfl | rfl
    · exact h0.symm
    all_goals rfl
  · rw [byteAt_right _ _ _ (by rw [hs]; omega) (by rw [hs, hq]; omega), hs]
    unfold rQ
    rw [byteAt_extract _ _ _ _ (by omega) (by omega)]
    congr 1; omega

theorem add_zero_iff (a b : UInt8) : a + b = 0 ↔ b = 0 - a := by
  have h1 := a.toNat_lt
  have h2 := b.toNat_lt
  constructor
  · intro h
    apply UInt8.toNat_inj.1
    have h3 := congrArg UInt8.toNat h
    rw [UInt8.toNat_add] at h3
    rw [UInt8.toNat_sub]
    simp at h3 ⊢
    omega
  · intro h
    apply UInt8.toNat_inj.1
    have h3 := congrArg UInt8.toNat h
    rw [UInt8.toNat_sub] at h3
    rw [UInt8.toNat_add]
    simp at h3 ⊢
    omega

theorem readsOk_iff (p : ByteArray) (hp : 10 ≤ p.size ∧ p.size ≤ 25) : ReadsOk p (rK p) (rM p) (rO p) (rS p) (rZ p) (rI p) (rQ p) ↔ PacketOk p := by
  have hq : (rQ p).size = p.size - 9 := by unfold rQ; rw [ByteArray.size_extract]; omega
  have hts := packT_size (rK p) (rM p) (rO p) (rS p) (rZ p) (rI p) (rQ p)
  have hsz : (packT (rK p) (rM p) (rO p) (rS p) (rZ p) (rI p) (rQ p)).size = p.size - 1 := by rw [hts, hq]; omega
  have hsum : byteAt p 0 = 82 → (addTo p p.size = 0 ↔ byteAt p (p.size - 1) = chkTo (packT (rK p) (rM p) (rO p) (rS p) (rZ p) (rI p) (rQ p)) (packT (rK p) (rM p) (rO p) (rS p) (rZ p) (rI p) (rQ p)).size) := fun h0 => by
    have hb := packT_byte p hp.1 h0
    rw [chk_add, hsz, addTo_congr _ p _ hb]
    have h1 : addTo p p.size = addTo p (p.size - 1) + byteAt p (p.size - 1) := by
      obtain ⟨n, hn⟩ : ∃ n, p.size = n + 1 := ⟨p.size - 1, by omega⟩
      rw [hn]; rfl
    rw [h1]
    exact add_zero_iff _ _
  constructor
  · rintro ⟨hm, hi, hz, hpk⟩
    have h0 : byteAt p 0 = 82 := by
      rw [← hpk]; unfold packB
      rw [byteAt_left _ _ _ (by rw [hts]; omega)]
      unfold packT
      rw [byteAt_left _ _ _ (by show 0 < 8; omega)]; rfl
    refine ⟨hp.1, hp.2, h0, hm, hi, by omega, (hsum h0).2 ?_⟩
    have h1 : byteAt (packB (rK p) (rM p) (rO p) (rS p) (rZ p) (rI p) (rQ p)) (p.size - 1) = byteAt p (p.size - 1) := by rw [hpk]
    rw [← h1]
    unfold packB
    rw [byteAt_right _ _ _ (by omega) (by rw [hsz]; show p.size - 1 < p.size - 1 + 1; omega), hsz, Nat.sub_self]; rfl
  · rintro ⟨_, _, h0, hm, hi, hz, hs⟩
    refine ⟨hm, hi, by omega, ?_⟩
    have hb := packT_byte p hp.1 h0
    have hl := (hsum h0).1 hs
    rw [hsz] at hl
    unfold packB
    generalize packT (rK p) (rM p) (rO p) (rS p) (rZ p) (rI p) (rQ p) = T at *
    refine bytes_ext (by rw [ByteArray.size_append, hsz]; show p.size - 1 + 1 = p.size; omega) (fun i hi2 => ?_)
    rw [ByteArray.size_append, hsz] at hi2
    have hi3 : i < p.size - 1 + 1 := hi2
    by_cases hlt : i < p.size - 1
    · rw [byteAt_left _ _ _ (by omega)]; exact hb i hlt
    · have : i = p.size - 1 := by omega
      subst this
      rw [byteAt_right _ _ _ (by omega) (by rw [hsz]; show p.size - 1 < p.size - 1 + 1; omega), hsz, Nat.sub_self, hl]; rfl

end Go.Proofs.Ytnjaofkieajnlab

/- The program's catcher: its data and its object. -/
namespace Go.Proofs.Ytnjaofkieajnlab
open Go.RowKit

/-- The first texts that are told, joined. -/
def joinTo (F : Nat → ByteArray × Bool) : Nat → ByteArray
  | 0 => ByteArray.empty
  | i + 1 => joinTo F i ++ (F i).1

theorem gotTo_getD (F : Nat → ByteArray × Bool) (n i : Nat) (h : i < n) : (gotTo F n).getD i ByteArray.empty = (F i).1 := by
  induction n with
  | zero => omega
  | succ n ih =>
    show (gotTo F n ++ [(F n).1]).getD i ByteArray.empty = _
    rw [List.getD_eq_getElem?_getD]
    by_cases e : i < n
    · rw [List.getElem?_append_left (by rw [gotTo_length]; exact e), ← List.getD_eq_getElem?_getD]; exact ih e
    · have : i = n := by omega
      subst this
      rw [List.getElem?_append_right (by rw [gotTo_length]; exact Nat.le_refl _), gotTo_length, Nat.sub_self]; rfl

theorem joinTo_cat (F : Nat → ByteArray × Bool) (n i : Nat) (h : i ≤ n) : catTo (gotTo F n) i = joinTo F i := by
  induction i with
  | zero => rfl
  | succ i ih =>
    show catTo (gotTo F n) i ++ (gotTo F n).getD i ByteArray.empty = joinTo F i ++ (F i).1
    rw [ih (by omega), gotTo_getD F n i (by omega)]

theorem joinTo_size (F : Nat → ByteArray × Bool) (z : Nat) (h : ∀ i, (F i).1.size = z) (i : Nat) : (joinTo F i).size = i * z := by
  induction i with
  | zero => simp [joinTo]
  | succ i ih =>
    show (joinTo F i ++ (F i).1).size = _
    rw [ByteArray.size_append, ih, h, Nat.succ_mul]

set_option maxRecDepth 100000 in
set_option maxHeartbeats 4000000 in
theorem qdata_any (p o Ln : Nat) (tt : TypeId) (hh : Nat → Value) (K n z : Nat) (of : Nat → Nat) (kn : Kn) (F : Nat → ByteArray × Bool) (w : World) (hK : 1 ≤ K ∧ K ≤ 20) (hkn : KnOk K z kn) (hof : ∀ i, of i < 2 ^ K) (hz : 1 ≤ z ∧ z ≤ 16) (hn : n ≤ 40) (hKn : K ≤ n) (hbox : BoxOff w p o Ln tt hh K n z of kn)
    (hF : ∀ i, i < K → ((F i).2 = true ↔ (left kn (of i) (zeroB z)).1 = 0)) (hF1 : ∀ i, i < K → (F i).1 = (left kn (of i) (zeroB z)).2) (hFs : ∀ i, (F i).1.size = z) :
    Calls Try.prog 53 #[.pointer (some ⟨p, o, none⟩)] w fun e w' => (((∀ j, j < K → (F j).2 = true) → e = .returned (.tuple #[.string (joinTo F K), .int .i64 0])) ∧ (¬ (∀ j, j < K → (F j).2 = true) → e = .returned (.tuple #[.string ⟨#[]⟩, .int .i64 5]))) ∧ Below w.heap.size w w' := by
  obtain ⟨i0, hi0, hz0, hz1, hz2⟩ := info_parts Try.infoByte
  have hmk : ∀ w, (Instr.makeSlice 55 (.int .i64 0) (.int .i64 320)).run Try.prog w = .ok (.slice (some ⟨w.heap.size, 0, none⟩) 0 320) (w.alloc (.cells (madeCells #[.int .u8 0] 320) 5)) := run_make_byteRow 320 (by omega)
  have hge : ∀ wr, Below w.heap.size w wr → ∀ i, i < K → Calls Try.prog 30 #[.pointer (some ⟨p, o, none⟩), .int .i64 (i : Int)] wr fun e w' => e = .returned (.tuple (if (F i).2 = true then #[.string (F i).1, .int .i64 0] else #[.string ⟨#[]⟩, .int .i64 5])) ∧ Below wr.heap.size wr w' := fun wr hb i hi => by
    have h1 := qget_ok p o Ln tt hh K n z i of kn wr hK.2 hkn hof (by omega) hn (by omega) (hbox.on (Nat.le_refl _) hb)
    rw [← hF1 i hi] at h1
    simp only [← hF i hi] at h1
    exact h1
  have hcell : ∀ wr, Below w.heap.size w wr → wr.cell? ⟨p, o, none⟩ = some (.int .i64 (K : Int)) := fun wr hb => (hbox.on (Nat.le_refl _) hb).head.1
  have hsz := joinTo_size F z hFs
  have hown : (w.alloc (.cells (madeCells #[.int .u8 0] 320) 5)).ownsRow w.heap.size 5 1 (.slice (some ⟨w.heap.size, 0, none⟩) 0 320) 0 (bytesV (joinTo F 0)) := by
    have := World.ownsRow_made (base := w.heap.size) (e := 5) (size := 1) w (madeCells #[.int .u8 0] 320) 320 (by simp) (by unfold maxLen; omega) (by simp [size_madeCells])
    have e0 : bytesV (joinTo F 0) = [] := rfl
    rw [e0]
    simpa using this
  have hpl := hbox.lt
  have hbA : Below w.heap.size w (w.alloc (.cells (madeCells #[.int .u8 0] 320) 5)) := (Below.refl _ _).alloc (Nat.le_refl _) _
  clear hbox hkn hof hF hF1
  go_enter Try.func53, Try.ntmps53
  go_wp2_with fail
  go_loopw [4, 5] (fun dv t wr => ∃ i : Nat, i ≤ K ∧ t = .int .i64 i ∧ wr.ownsRow w.heap.size 5 1 dv (joinTo F i).size (bytesV (joinTo F i)) ∧ (∀ j, j < i → (F j).2 = true) ∧ Below w.heap.size w wr) (fun _ t _ => K - (intOf t).toNat)
  case atStart => exact ⟨0, Nat.zero_le _, rfl, hown, fun j hj => absurd hj (Nat.not_lt_zero _), hbA⟩
  case round =>
    clear hown hbA hmk
    obtain ⟨i, hiK, rfl, hown, hall, hbr⟩ := hrel
    have Hall := hide hall
    have hwr := hbr.size
    have c0 := hcell wr hbr
    have hszi := hsz i
    have hzi : i * z ≤ 320 := Nat.le_trans (Nat.mul_le_mul (Nat.le_trans hiK hK.2) hz.2) (by decide)
    have hJ : (joinTo F i).size ≤ 320 := by omega
    clear hall hszi
    by_cases hlt : i < K
    · have hg := hge wr hbr i hlt
      have hgt : joinTo F (i + 1) = joinTo F i ++ (F i).1 := rfl
      have Hgt := hide hgt
      have hFi : (F i).1.size ≤ 16 := by rw [hFs i]; omega
      clear hgt
      cases hk : (F i).2 with
      | false =>
        rw [hk, if_neg (by simp)] at hg
        have hno : ¬ (∀ j, j < K → (F j).2 = true) := fun h => by rw [h i hlt] at hk; cases hk
        have Hno := hide hno
        clear hk hno
        go_wp2_with fail
        refine hg.mono ?_
        rintro e w4 ⟨rfl, hb4⟩
        have hbr4 := hbr.trans (hb4.mono hbr.size)
        clear hb4 hown hbr hg c0
        go_wp2_with fail
        go_ret2
        exact ⟨⟨fun h => absurd h Hno.out, fun _ => rfl⟩, hbr4⟩
      | true =>
        rw [hk, if_pos rfl] at hg
        have Hk := hide hk
        clear hk
        generalize hq : (F i).1 = q at *
        clear hq
        generalize hJi : joinTo F i = J at *
        go_wp2_with fail
        refine hg.mono ?_
        rintro e w4 ⟨rfl, hb4⟩
        have hown4 := owns_below hown hb4
        have hbr4 := hbr.trans (hb4.mono hbr.size)
        have hw4 := hbr4.size
        clear hb4 hown hbr hg c0
        go_wp2_with (at_builtin; refine Go.Lib.wpList_append_own_string _ rfl (.tmp 26) (.tmp 27) 55 9 rfl w.heap.size 5 i0 Try.underlying55 Try.underlying9 hi0 hz0 hz1 hz2 _ _ _ rfl hown4 q rfl (by unfold maxLen; omega) (by omega) (by omega) ?_)
        intro v5 w5 hown5 hgr5 _
        have hb5 : Below w.heap.size w w5 := hbr4.grown hgr5 hbr4.size (fun k e => (hown4.lt k e).1)
        rw [bytesV_str, ← bytesV_app] at hown5
        clear hown4 hbr4 hgr5
        go_wp2_with fail
        go_roundw
        case rel =>
          refine ⟨i + 1, by omega, by go_num, by rw [Hgt.out, ByteArray.size_append]; exact hown5, fun j hj => ?_, hb5⟩
          by_cases e : j = i
          · subst e; exact Hk.out
          · exact Hall.out j (by omega)
        case measure => simp [intOf]; omega
    · have hii : i = K := by omega
      subst hii
      have hpos : 0 < i * z := Nat.mul_pos (by omega) (by omega)
      have hcv := conv_own (joinTo F i) _ _ _ wr hown rfl (by rw [hsz i]; omega)
      obtain ⟨J, hJe⟩ : ∃ J, J = joinTo F i := ⟨_, rfl⟩
      rw [← hJe] at hcv
      have HJ := hide hJe
      clear hown hge hcell hJe hJ
      go_wp2_with fail
      go_ret2
      exact ⟨⟨fun _ => by rw [← HJ.out]; rfl, fun h => absurd Hall.out h⟩, hbr⟩

theorem zero_iff (t : ByteArray) (m : Nat) (hm : m ≤ t.size) : t.extract m t.size = zeroB (t.size - m) ↔ ∀ i, m ≤ i → i < t.size → byteAt t i = 0 := by
  have hs : (t.extract m t.size).size = t.size - m := by rw [ByteArray.size_extract]; omega
  constructor
  · intro h i h1 h2
    have := byteAt_extract t m t.size (i - m) (Nat.le_refl _) (by omega)
    rw [h, byteAt_zeroB, show m + (i - m) = i by omega] at this
    exact this.symm
  · intro h
    refine bytes_ext (by rw [hs, zeroB_size]) (fun i hi => ?_)
    rw [hs] at hi
    rw [byteAt_zeroB, byteAt_extract t m t.size i (Nat.le_refl _) (by omega)]
    exact h (m + i) (by omega) (by omega)

set_option maxRecDepth 100000 in
set_option maxHeartbeats 4000000 in
theorem oread_any (t : ByteArray) (w : World) (hts : t.size ≤ 1000) :
    Calls Try.prog 54 #[.string t] w fun e w' => ((objOk t = true → e = .returned (.tuple #[.string (objText t), .int .i64 0])) ∧ (objOk t = false → e = .returned (.tuple #[.string ⟨#[]⟩, .int .i64 8]))) ∧ Below w.heap.size w w' := by
  have hbd : ∀ n, Below w.heap.size w (w.drewN n) := fun n => ⟨rfl, rfl, rfl, Nat.le_refl _, fun _ _ => rfl⟩
  by_cases h2 : t.size < 2
  · have hok : objOk t = false := by unfold objOk; rw [if_neg (by omega)]
    have Hok := hide hok
    have hl : (t.size : Int) < 2 := by omega
    clear hok
    go_enter Try.func54, Try.ntmps54
    go_wp2_with fail
    go_ret2
    exact ⟨⟨fun h => (by rw [Hok.out] at h; cases h), fun _ => rfl⟩, Below.refl _ _⟩
  · have g0 := byteAt_get t 0 (by omega)
    have g1 := byteAt_get t 1 (by omega)
    have b0 := (byteAt t 0).toNat_lt
    have b1 := (byteAt t 1).toNat_lt
    have i0 : (0 : Int) < (t.size : Int) := by omega
    have i1 : (1 : Int) < (t.size : Int) := by omega
    have hl : ¬ (t.size : Int) < 2 := by omega
    obtain ⟨L, hL⟩ : ∃ L, L = objLen t := ⟨_, rfl⟩
    have hL2 : ((2 : Int) + ((byteAt t 0).toNat : Int)) + 256 * ((byteAt t 1).toNat : Int) = ((2 + L : Nat) : Int) := by rw [hL]; unfold objLen; omega
    have hLb : L ≤ 65535 := by rw [hL]; unfold objLen; omega
    have HL := hide hL
    have HL2 := hide hL2
    clear hL hL2
    go_enter Try.func54, Try.ntmps54
    go_upto_region 3 with fail
    go_cut [4] (fun s4 wc => s4 = .int .i64 ((2 + L : Nat) : Int) ∧ ∃ n, wc = w.drewN n)
    case first =>
      go_quiet (fail)
      go_wp2_with fail
      go_meet
      case rel => exact ⟨by rw [← HL2.out], _, rfl⟩
    case rest =>
    obtain ⟨rfl, nq, rfl⟩ := hcut
    clear g0 g1 b0 b1
    have hbW := hbd nq
    generalize w.drewN nq = W at *
    clear hbd
    by_cases hle : L + 2 ≤ t.size
    · have hle2 : ¬ (t.size : Int) < ((2 + L : Nat) : Int) := by omega
      have hiff := zero_iff t (2 + L) (by omega)
      have hok : objOk t = decide (t.extract (2 + L) t.size = zeroB (t.size - (2 + L))) := by unfold objOk; rw [← HL.out, if_pos hle]
      have htx : objText t = t.extract 2 (2 + L) := by unfold objText; rw [← HL.out, if_pos hle]
      have Hiff := hide hiff
      have Hok := hide hok
      have Htx := hide htx
      clear hiff hok htx
      go_wp2_with fail
      go_loop [5] (fun iv => ∃ i : Nat, 2 + L ≤ i ∧ i ≤ t.size ∧ iv = .int .i64 (i : Int) ∧ ∀ j, 2 + L ≤ j → j < i → byteAt t j = 0) (fun iv => t.size - (intOf iv).toNat)
      case atStart => exact ⟨2 + L, Nat.le_refl _, by omega, rfl, fun j h1 h2 => absurd h2 (by omega)⟩
      case round =>
        obtain ⟨i, hi1, hi2, rfl, hall⟩ := hrel
        have Hall := hide hall
        clear hall
        by_cases hlt : i < t.size
        · have gi := byteAt_get t i hlt
          have j1 : (0 : Int) ≤ (i : Int) := by omega
          have j2 : (i : Int) < (t.size : Int) := by omega
          by_cases hz : byteAt t i = 0
          · have hb : (((byteAt t i).toNat : Int) != 0) = false := by rw [hz]; rfl
            have Hz := hide hz
            clear hz
            go_wp2_with fail
            go_round
            case rel =>
              refine ⟨i + 1, by omega, by omega, by go_num, fun j h1 h2 => ?_⟩
              by_cases e : j = i
              · subst e; exact Hz.out
              · exact Hall.out j h1 (by omega)
            case measure => simp [intOf]; omega
          · have hb : (((byteAt t i).toNat : Int) != 0) = true := by
              simp only [bne_iff_ne, ne_eq]
              intro e
              exact hz (UInt8.toNat_inj.1 (by show (byteAt t i).toNat = 0; omega))
            have hno : objOk t = false := by
              rw [Hok.out]
              exact decide_eq_false (fun h => hz (Hiff.out.1 h i hi1 hlt))
            have Hno := hide hno
            clear hz hno
            go_wp2_with fail
            go_ret2
            exact ⟨⟨fun h => (by rw [Hno.out] at h; cases h), fun _ => rfl⟩, hbW⟩
        · have hii : i = t.size := by omega
          have hyes : objOk t = true := by
            rw [Hok.out]
            exact decide_eq_true (Hiff.out.2 (fun j h1 h2 => Hall.out j h1 (by omega)))
          have Hyes := hide hyes
          have k1 : ¬ (i : Int) < (t.size : Int) := by omega
          have k2 : (2 : Int) ≤ ((2 + L : Nat) : Int) := by omega
          have k3 : ((2 + L : Nat) : Int) ≤ (t.size : Int) := by omega
          clear hyes hii
          go_wp2_with fail
          go_ret2
          exact ⟨⟨fun _ => by rw [Htx.out, show 2 + L = ((2 : Int) + (L : Int)).toNat by omega]; rfl, fun h => (by rw [Hyes.out] at h; cases h)⟩, hbW⟩
    · have hle2 : (t.size : Int) < ((2 + L : Nat) : Int) := by omega
      have hok : objOk t = false := by unfold objOk; rw [← HL.out, if_neg hle]
      have Hok := hide hok
      clear hok
      go_wp2_with fail
      go_ret2
      exact ⟨⟨fun h => (by rw [Hok.out] at h; cases h), fun _ => rfl⟩, hbW⟩

end Go.Proofs.Ytnjaofkieajnlab

/- The document's own read: texts too short or too long. -/
namespace Go.Proofs.Ytnjaofkieajnlab
open Go.RowKit

end Go.Proofs.Ytnjaofkieajnlab

/- The document's own Hear: no packet. -/
namespace Go.Proofs.Ytnjaofkieajnlab
open Go.RowKit

end Go.Proofs.Ytnjaofkieajnlab

/- The document's own Hear: the first packet. -/
namespace Go.Proofs.Ytnjaofkieajnlab
open Go.RowKit

end Go.Proofs.Ytnjaofkieajnlab

/- What both reads answer: the program's and the document's. -/
namespace Go.Proofs.Ytnjaofkieajnlab
open Go.RowKit

theorem PacketOk.has {p : ByteArray} (h : PacketOk p) : (1 ≤ rK p ∧ rK p ≤ 20) ∧ (1 ≤ rM p ∧ rM p ≤ 20) ∧ (1 ≤ rO p ∧ rO p ≤ rM p) ∧ rS p ≤ 65535 ∧ (1 ≤ rZ p ∧ rZ p ≤ 16) ∧ rI p < rK p + rM p ∧ (rQ p).size = rZ p := by
  obtain ⟨h1, h2, _, hm, hi, hs, _⟩ := h
  have := mayB_true hm
  refine ⟨by omega, by omega, by omega, by omega, by omega, hi, ?_⟩
  unfold rQ
  rw [ByteArray.size_extract]
  omega

theorem pread_ok (p : ByteArray) (w : World) (h : PacketOk p) :
    Calls Try.prog 50 #[.string p] w fun e w' => e = .returned (.tuple #[.agg (pkC (rK p) (rM p) (rO p) (rS p) (rZ p) (rI p) (rQ p)), .bool true]) ∧ Below w.heap.size w w' := by
  obtain ⟨h1, h2, h0, hm, hi, hs, ha⟩ := h
  have hq : p.extract 8 (8 + rZ p) = rQ p := by unfold rQ; rw [show 8 + rZ p = p.size - 1 by omega]
  refine (pread_walk p (rK p) (rM p) (rO p) (rS p) (rZ p) (rI p) w (by omega) h0 rfl rfl rfl rfl rfl rfl).mono fun e w' h => ⟨?_, h.2⟩
  rw [h.1.1 ⟨hm, by omega, by omega, hi, hs, ha⟩, hq]

theorem pread_no (p : ByteArray) (w : World) (h : ¬ PacketOk p) :
    Calls Try.prog 50 #[.string p] w fun e w' => e = .returned (.tuple #[.agg pk0, .bool false]) ∧ Below w.heap.size w w' := by
  by_cases h8 : p.size < 8
  · exact pread_short p w (Or.inl (by omega))
  · by_cases h0 : byteAt p 0 = 82
    · refine (pread_walk p (rK p) (rM p) (rO p) (rS p) (rZ p) (rI p) w (by omega) h0 rfl rfl rfl rfl rfl rfl).mono fun e w' hh => ⟨?_, hh.2⟩
      exact hh.1.2 (fun ⟨a, b, c, d, f, g⟩ => h ⟨by omega, by omega, h0, a, d, f, g⟩)
    · exact pread_short p w (Or.inr ⟨by omega, h0⟩)

end Go.Proofs.Ytnjaofkieajnlab

/- The program's catcher: Object; Hear of further packets. -/
namespace Go.Proofs.Ytnjaofkieajnlab
open Go.RowKit

set_option maxRecDepth 100000 in
set_option maxHeartbeats 4000000 in
theorem pobj_none (p o Ln : Nat) (tt : TypeId) (hh : Nat → Value) (w : World) (hc : CatNone w p o Ln tt hh) :
    Calls Try.prog 35 #[.pointer (some ⟨p, o, none⟩)] w fun e w' => e = .returned (.tuple #[.string ⟨#[]⟩, .int .i64 5]) ∧ w' = w := by
  obtain ⟨c0, _⟩ := hc.head
  clear hc
  go_enter Try.func35, Try.ntmps35
  go_wp2_with fail
  go_ret2
  exact ⟨rfl, rfl⟩

set_option maxRecDepth 100000 in
set_option maxHeartbeats 4000000 in
theorem pobj_has (p o Ln : Nat) (tt : TypeId) (hh : Nat → Value) (K M O S z : Nat) (kn : Kn) (F : Nat → ByteArray × Bool) (T : ByteArray) (w : World) (hK : 1 ≤ K ∧ K ≤ 20) (hM : M ≤ 20) (hkn : KnOk K z kn) (hz : 1 ≤ z ∧ z ≤ 16) (hc : CatHas w p o Ln tt hh K M O S z kn)
    (hF : ∀ i, i < K → ((F i).2 = true ↔ (left kn (ofs K M O S i) (zeroB z)).1 = 0)) (hF1 : ∀ i, i < K → (F i).1 = (left kn (ofs K M O S i) (zeroB z)).2) (hFs : ∀ i, (F i).1.size = z) (hT : T = joinTo F K) :
    Calls Try.prog 35 #[.pointer (some ⟨p, o, none⟩)] w fun e w' => (((∀ j, j < K → (F j).2 = true) → objOk T = true → e = .returned (.tuple #[.string (objText T), .int .i64 0])) ∧ ((∀ j, j < K → (F j).2 = true) → objOk T = false → e = .returned (.tuple #[.string ⟨#[]⟩, .int .i64 8])) ∧ (¬ (∀ j, j < K → (F j).2 = true) → e = .returned (.tuple #[.string ⟨#[]⟩, .int .i64 5]))) ∧ Below w.heap.size w w' := by
  obtain ⟨c0, _⟩ := hc.head
  have hd := qdata_any p (o + 6) Ln tt _ K (K + M) z (ofs K M O S) kn F w hK hkn (ofs_lt K M O S) hz (by omega) (by omega) hc.box hF hF1 hFs
  have hTs : T.size ≤ 1000 := by
    rw [hT, joinTo_size F z hFs]
    exact Nat.le_trans (Nat.mul_le_mul hK.2 hz.2) (by decide)
  rw [← hT] at hd
  have hrd := fun W => oread_any T W hTs
  clear hc hF hF1 hFs hkn hT
  go_enter Try.func35, Try.ntmps35
  go_wp2_with fail
  refine hd.mono ?_
  rintro e w1 ⟨⟨h1, h2⟩, hb1⟩
  by_cases hall : ∀ j, j < K → (F j).2 = true
  · rw [h1 hall]
    have Hall := hide hall
    clear h1 h2 hall hd
    go_wp2_with fail
    refine (hrd _).mono ?_
    rintro e w2 ⟨⟨h1, h2⟩, hb2⟩
    have hbf := hb1.trans (hb2.mono hb1.size)
    cases hk : objOk T with
    | true =>
      rw [h1 hk]
      have Hk := hide hk
      obtain ⟨x, hx⟩ : ∃ x, x = objText T := ⟨_, rfl⟩
      rw [← hx]
      have Hx := hide hx
      clear h1 h2 hk hx
      go_wp2_with fail
      go_ret2
      exact ⟨⟨fun _ _ => by rw [← Hx.out]; rfl, fun _ h => (by rw [Hk.out] at h; cases h), fun h => absurd Hall.out h⟩, hbf⟩
    | false =>
      rw [h2 hk]
      have Hk := hide hk
      clear h1 h2 hk
      go_wp2_with fail
      go_ret2
      exact ⟨⟨fun _ h => (by rw [Hk.out] at h; cases h), fun _ _ => rfl, fun h => absurd Hall.out h⟩, hbf⟩
  · rw [h2 hall]
    have Hall := hide hall
    clear h1 h2 hall hd
    go_wp2_with fail
    go_ret2
    exact ⟨⟨fun h => absurd h Hall.out, fun h => absurd h Hall.out, fun _ => rfl⟩, hb1⟩

set_option maxRecDepth 100000 in
set_option maxHeartbeats 4000000 in
theorem pnext_other (p o Ln : Nat) (tt : TypeId) (hh : Nat → Value) (K M O S z n : Nat) (of : Nat → Nat) (kn : Kn) (K' M' O' S' z' i : Nat) (q : ByteArray) (w : World) (hc : CatOff w p o Ln tt hh true K M O S z n of kn) (hno : ¬ (K' = K ∧ M' = M ∧ O' = O ∧ S' = S ∧ z' = z)) :
    Calls Try.prog 51 #[.pointer (some ⟨p, o, none⟩), .agg (pkC K' M' O' S' z' i q)] w fun e w' => e = .returned (.int .i64 7) ∧ Below w.heap.size w w' := by
  have hcA := hc.on (Nat.le_refl _) ((Below.refl _ _).alloc (Nat.le_refl _) (.cells (pkC K' M' O' S' z' i q) 84))
  have hpk := pk_cells (heap_alloc_new w (.cells (pkC K' M' O' S' z' i q) 84))
  have hbA : Below w.heap.size w (w.alloc (.cells (pkC K' M' O' S' z' i q) 84)) := (Below.refl _ _).alloc (Nat.le_refl _) _
  go_enter Try.func51, Try.ntmps51
  go_upto_region 1 with fail
  generalize w.alloc (.cells (pkC K' M' O' S' z' i q) 84) = W at *
  obtain ⟨d0, d1, d2, d3, d4, d5⟩ := hcA.head
  obtain ⟨c0, c1, c2, c3, c4, c5, c6⟩ := hpk
  have hbf : ∀ n, Below w.heap.size w (W.drewN n) := fun n => hbA.trans ⟨rfl, rfl, rfl, Nat.le_refl _, fun _ _ => rfl⟩
  clear hc hcA hbA
  by_cases e1 : K' = K ∧ M' = M ∧ O' = O ∧ S' = S
  · have hzz : ((z' : Int) != (z : Int)) = true := by simp; intro e; exact hno ⟨e1.1, e1.2.1, e1.2.2.1, e1.2.2.2, by omega⟩
    obtain ⟨rfl, rfl, rfl, rfl⟩ := e1
    clear hno
    go_quiet (fail)
    go_wp2_with fail
    go_ret
    exact ⟨rfl, hbf _⟩
  · have hor : ((K' : Int) == (K : Int)) = false ∨ (K' = K ∧ ((M' : Int) == (M : Int)) = false) ∨ (K' = K ∧ M' = M ∧ ((O' : Int) == (O : Int)) = false) ∨ (K' = K ∧ M' = M ∧ O' = O ∧ ((S' : Int) == (S : Int)) = false) := by
      simp only [beq_eq_false_iff_ne, ne_eq, Int.natCast_inj]
      omega
    clear hno e1
    rcases hor with h | ⟨rfl, h⟩ | ⟨rfl, rfl, h⟩ | ⟨rfl, rfl, rfl, h⟩
    all_goals
      go_quiet (fail)
      go_wp2_with fail
      go_ret
      exact ⟨rfl, hbf _⟩

set_option maxRecDepth 100000 in
set_option maxHeartbeats 4000000 in
theorem pnext_put (p o Ln : Nat) (tt : TypeId) (hh : Nat → Value) (K M O S z : Nat) (kn : Kn) (i : Nat) (q : ByteArray) (w : World) (hK : K ≤ 20) (hM : M ≤ 20) (hkn : KnOk K z kn) (hz : z ≤ 16) (hi : i < K + M) (hq : q.size = z) (hc : CatHas w p o Ln tt hh K M O S z kn) :
    Calls Try.prog 51 #[.pointer (some ⟨p, o, none⟩), .agg (pkC K M O S z i q)] w fun e w' => e = .returned (.int .i64 (putE (left kn (ofs K M O S i) q) z)) ∧ CatHas w' p o Ln tt hh K M O S z (putK kn (ofs K M O S i) q) ∧ Chg (fun k => k = p) w w' := by
  have hcA := hc.on (Nat.le_refl _) ((Below.refl _ _).alloc (Nat.le_refl _) (.cells (pkC K M O S z i q) 84))
  have hpk := pk_cells (heap_alloc_new w (.cells (pkC K M O S z i q) 84))
  have hbA : Chg (fun k => k = p) w (w.alloc (.cells (pkC K M O S z i q) 84)) := (Chg.refl _ _).alloc _
  have hsz : (w.alloc (.cells (pkC K M O S z i q) 84)).heap.size = w.heap.size + 1 := by simp
  have hpl := hc.lt
  have hput : ∀ W, BoxOff W p (o + 6) Ln tt (inCat o hh true K M O S z (K + M) (ofs K M O S) kn0) K (K + M) z (ofs K M O S) kn → Calls Try.prog 31 #[.pointer (some ⟨p, o + 6, none⟩), .int .i64 (i : Int), .string q] W fun e w' => e = .returned (.int .i64 (putE (left kn (ofs K M O S i) q) z)) ∧ CatHas w' p o Ln tt hh K M O S z (putK kn (ofs K M O S i) q) ∧ Chg (fun k => k = p) W w' := fun W hW =>
    (qput_ok p (o + 6) Ln tt _ K (K + M) z i q (ofs K M O S) kn W hK hkn (ofs_lt K M O S) (by omega) (by omega) hi hq hW).mono fun e w' ⟨h1, h2, h3⟩ => ⟨h1, CatOff.of_box h2, h3⟩
  obtain ⟨ee, he⟩ : ∃ ee, ee = putE (left kn (ofs K M O S i) q) z := ⟨_, rfl⟩
  obtain ⟨k2, hk2⟩ : ∃ k2, k2 = putK kn (ofs K M O S i) q := ⟨_, rfl⟩
  rw [← he, ← hk2] at hput ⊢
  clear he hk2
  go_enter Try.func51, Try.ntmps51
  go_upto_region 1 with fail
  generalize w.alloc (.cells (pkC K M O S z i q) 84) = W at *
  obtain ⟨d0, d1, d2, d3, d4, d5⟩ := hcA.head
  obtain ⟨c0, c1, c2, c3, c4, c5, c6⟩ := hpk
  have hbox := hcA.box
  clear hc hcA
  go_quiet (fail)
  have hboxN : BoxOff (W.drewN nq) p (o + 6) Ln tt (inCat o hh true K M O S z (K + M) (ofs K M O S) kn0) K (K + M) z (ofs K M O S) kn := hbox
  have c5N : (W.drewN nq).cell? ⟨w.heap.size, 5, none⟩ = some (.int .i64 (i : Int)) := c5
  have c6N : (W.drewN nq).cell? ⟨w.heap.size, 6, none⟩ = some (.string q) := c6
  have hbN := hbA.drewN nq
  have hszN : (W.drewN nq).heap.size = w.heap.size + 1 := hsz
  generalize W.drewN nq = V at *
  clear c0 c1 c2 c3 c4 c5 c6 hbox hbA d0 d1 d2 d3 d4 d5 hsz
  have hboxD : BoxOff V.drew p (o + 6) Ln tt (inCat o hh true K M O S z (K + M) (ofs K M O S) kn0) K (K + M) z (ofs K M O S) kn := hboxN
  go_wp2_with fail
  go_region_held3 (fun w' => w'.cell? ⟨w.heap.size, 5, none⟩ = some (.int .i64 (i : Int)) ∧ w'.cell? ⟨w.heap.size, 6, none⟩ = some (.string q))
    (first | (exact ⟨c5N, c6N⟩) | (exact ⟨j0, j1⟩) | go_keep)
    (first
      | (go_at_call 31; refine (hput _ (by first | exact hboxD | exact hboxN)).mono ?_; rintro e w2 ⟨rfl, hc2, hcg2⟩; have hne : w.heap.size ≠ p := (by omega); have j0 := (hcg2.cell (a := ⟨w.heap.size, 5, none⟩) (show w.heap.size < V.heap.size by omega) hne).trans c5N; have j1 := (hcg2.cell (a := ⟨w.heap.size, 6, none⟩) (show w.heap.size < V.heap.size by omega) hne).trans c6N))
  all_goals
    have hend := (hbN.drew.trans hcg2 (fun k _ h => h))
    clear hcg2 hboxN hboxD c5N c6N hput
    go_wp2_with fail
    go_ret
    exact ⟨rfl, hc2, hend⟩

end Go.Proofs.Ytnjaofkieajnlab
