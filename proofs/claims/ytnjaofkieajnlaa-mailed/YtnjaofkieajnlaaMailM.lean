/- A large object as plain mathematics: its parts, its sheets, the order that is drawn. -/
import Derived.Test.YtnjaofkieajnlaaPackM
namespace Go.Proofs.Ytnjaofkieajnlaa

/-- How many parts, for parts of n bytes. -/
def partsN (t : ByteArray) (n : Nat) : Nat := if t.size = 0 then 1 else (t.size + n - 1) / n

/-- The part at p. -/
def partT (t : ByteArray) (n p : Nat) : ByteArray := t.extract (p * n) (if t.size < p * n + n then t.size else p * n + n)

/-- A sheet. -/
def sheetB (p c : Nat) (k : ByteArray) : ByteArray := ⟨#[83]⟩ ++ ⟨#[UInt8.ofNat p, UInt8.ofNat c]⟩ ++ k

/-- The sheets of the first packets of a part. -/
def sheetTo (p c : Nat) (L : List ByteArray) : Nat → List ByteArray
  | 0 => []
  | i + 1 => sheetTo p c L i ++ [sheetB p c (L.getD i ByteArray.empty)]

/-- The packets of a part. -/
def partL (K M O S z : Nat) (t : ByteArray) (p : Nat) : List ByteArray := packTo K M O S z (objWord K M O S z (partT t (K * z - 2) p)) (K + M)

/-- The sheets of the first parts. -/
def sheetsTo (K M O S z c : Nat) (t : ByteArray) : Nat → List ByteArray
  | 0 => []
  | p + 1 => sheetsTo K M O S z c t p ++ sheetTo p c (partL K M O S z t p) (K + M)

theorem sheetTo_length (p c : Nat) (L : List ByteArray) (i : Nat) : (sheetTo p c L i).length = i := by
  induction i with
  | zero => rfl
  | succ i ih => show (sheetTo p c L i ++ [_]).length = _; rw [List.length_append, ih]; rfl

theorem sheetsTo_length (K M O S z c : Nat) (t : ByteArray) (p : Nat) : (sheetsTo K M O S z c t p).length = p * (K + M) := by
  induction p with
  | zero => simp [sheetsTo]
  | succ p ih => show (sheetsTo K M O S z c t p ++ _).length = _; rw [List.length_append, ih, sheetTo_length, Nat.succ_mul]

theorem partsN_pos (t : ByteArray) (n : Nat) (hn : 1 ≤ n) : 1 ≤ partsN t n := by
  unfold partsN
  split
  · exact Nat.le_refl _
  · rename_i h
    exact (Nat.le_div_iff_mul_le (by omega)).2 (by omega)

/-- A part lies within the text. -/
theorem partT_in (t : ByteArray) (n p : Nat) (hn : 1 ≤ n) (hp : p < partsN t n) : p * n ≤ t.size ∧ (partT t n p).size ≤ n := by
  have h1 : p * n ≤ t.size := by
    unfold partsN at hp
    split at hp
    · have : p = 0 := by omega
      subst this; simp
    · rename_i h
      have := (Nat.lt_div_iff_mul_lt (by omega)).1 hp
      omega
  refine ⟨h1, ?_⟩
  unfold partT
  rw [ByteArray.size_extract]
  split <;> omega

/-- Two places change. -/
def swapL {α : Type} (l : List α) (d : α) (i j : Nat) : List α := (l.set i (l.getD j d)).set j (l.getD i d)

theorem swapL_length {α : Type} (l : List α) (d : α) (i j : Nat) : (swapL l d i j).length = l.length := by simp [swapL]

/-- The order that is drawn, from place i down. -/
def mixFrom {α : Type} (d : α) (x : Nat) (l : List α) : Nat → List α
  | 0 => l
  | i + 1 => mixFrom d (nxt x) (swapL l d (i + 1) (nxt x % (i + 2))) i

theorem mixFrom_length {α : Type} (d : α) (x : Nat) (l : List α) (i : Nat) : (mixFrom d x l i).length = l.length := by
  induction i generalizing x l with
  | zero => rfl
  | succ i ih => show (mixFrom d (nxt x) _ i).length = _; rw [ih, swapL_length]

theorem getD_map_lt {α β : Type} (f : α → β) (l : List α) (a : α) (b : β) (i : Nat) (h : i < l.length) : (l.map f).getD i b = f (l.getD i a) := by
  rw [List.getD_eq_getElem?_getD, List.getD_eq_getElem?_getD, List.getElem?_map, List.getElem?_eq_getElem h]; rfl

theorem swapL_map {α β : Type} (f : α → β) (l : List α) (a : α) (b : β) (i j : Nat) (hi : i < l.length) (hj : j < l.length) : (swapL l a i j).map f = swapL (l.map f) b i j := by
  unfold swapL
  rw [List.map_set, List.map_set, getD_map_lt f l a b i hi, getD_map_lt f l a b j hj]

/-- To draw numbers, or what stands there: no matter. -/
theorem mixFrom_map {α β : Type} (f : α → β) (a : α) (b : β) (x : Nat) (l : List α) (i : Nat) (hi : i < l.length ∨ i = 0) : (mixFrom a x l i).map f = mixFrom b x (l.map f) i := by
  induction i generalizing x l with
  | zero => rfl
  | succ i ih =>
    have hi' : i + 1 < l.length := by omega
    have hm := Nat.mod_lt (nxt x) (show 0 < i + 2 by omega)
    show (mixFrom a (nxt x) (swapL l a (i + 1) (nxt x % (i + 2))) i).map f = mixFrom b (nxt x) (swapL (l.map f) b (i + 1) (nxt x % (i + 2))) i
    rw [ih _ _ (by rw [swapL_length]; omega), swapL_map f l a b _ _ hi' (by omega)]

theorem mem_swapL {α : Type} (l : List α) (d : α) (i j : Nat) (hi : i < l.length) (hj : j < l.length) (x : α) (h : x ∈ swapL l d i j) : x ∈ l := by
  unfold swapL at h
  rcases List.mem_or_eq_of_mem_set h with h | h
  · rcases List.mem_or_eq_of_mem_set h with h | h
    · exact h
    · rw [h, List.getD_eq_getElem?_getD, List.getElem?_eq_getElem hj]; exact List.getElem_mem _
  · rw [h, List.getD_eq_getElem?_getD, List.getElem?_eq_getElem hi]; exact List.getElem_mem _

theorem mem_mixFrom {α : Type} (d : α) (x : Nat) (l : List α) (i : Nat) (hi : i < l.length ∨ i = 0) (y : α) (h : y ∈ mixFrom d x l i) : y ∈ l := by
  induction i generalizing x l with
  | zero => exact h
  | succ i ih =>
    have hm := Nat.mod_lt (nxt x) (show 0 < i + 2 by omega)
    exact mem_swapL l d _ _ (by omega) (by omega) y (ih _ _ (by rw [swapL_length]; omega) h)

theorem range_map_getD {α : Type} (l : List α) (d : α) : (List.range l.length).map (fun k => l.getD k d) = l := by
  apply List.ext_getElem?
  intro i
  by_cases h : i < l.length
  · rw [List.getElem?_map, List.getElem?_range h, List.getElem?_eq_getElem h]
    show some (l.getD i d) = _
    rw [List.getD_eq_getElem?_getD, List.getElem?_eq_getElem h]; rfl
  · rw [List.getElem?_eq_none (by simp; omega), List.getElem?_eq_none (by omega)]

end Go.Proofs.Ytnjaofkieajnlaa
