/-
  PLAIN MATHEMATICS of the document's own answer (hintref): bytes, texts, words. Nothing of the program is named here.
-/
import Derived.Below
namespace Go.Proofs.YtocbogeoffeolaaGreatDoor
open Go.RowKit

/-- Is a byte of a word or a name? -/
def letterB (c : UInt8) : Bool := decide ((97 ≤ c.toNat ∧ c.toNat ≤ 122) ∨ (48 ≤ c.toNat ∧ c.toNat ≤ 57))
/-- Is a byte of a text? -/
def plainB (c : UInt8) : Bool := decide (32 ≤ c.toNat ∧ c.toNat ≤ 126)
/-- Is it a query? -/
def queryB (l : List UInt8) : Bool := decide (l.length ≤ 24) && l.all plainB
def lowB (c : UInt8) : UInt8 := if 65 ≤ c.toNat ∧ c.toNat ≤ 90 then c + 32 else c
def foldL (l : List UInt8) : List UInt8 := l.map lowB

theorem take_snoc (s : ByteArray) (k : Nat) (h : k < s.size) : s.data.toList.take (k + 1) = s.data.toList.take k ++ [s[k]] := by
  rw [List.take_succ_eq_append_getElem (by simpa using h)]; rfl

theorem foldL_length (l : List UInt8) : (foldL l).length = l.length := by simp [foldL]
theorem foldL_snoc (l : List UInt8) (c : UInt8) : foldL (l ++ [c]) = foldL l ++ [lowB c] := by simp [foldL]
/-- Bytes as the cells of a row. -/
def byteVals (l : List UInt8) : List Value := l.map fun c => Value.int .u8 c.toNat
theorem byteVals_length (l : List UInt8) : (byteVals l).length = l.length := by simp [byteVals]
theorem byteVals_snoc (l : List UInt8) (c : UInt8) : byteVals (l ++ [c]) = byteVals l ++ [Value.int .u8 c.toNat] := by simp [byteVals]

theorem lowB_up (c : UInt8) (h : 65 ≤ c.toNat ∧ c.toNat ≤ 90) : ((lowB c).toNat : Int) = (c.toNat : Int) + 32 := by
  unfold lowB; rw [if_pos h, UInt8.toNat_add]
  have : (32 : UInt8).toNat = 32 := rfl
  omega
theorem lowB_no (c : UInt8) (h : ¬ (65 ≤ c.toNat ∧ c.toNat ≤ 90)) : lowB c = c := by
  unfold lowB; rw [if_neg h]

/-- Is there the beginning of a word? -/
def startsL (l : List UInt8) (i : Nat) : Bool := letterB (l.getD i 0) && (decide (i = 0) || !letterB (l.getD (i - 1) 0))
/-- The word that begins at a place. -/
def wordAt (l : List UInt8) (i : Nat) : List UInt8 := (l.drop i).takeWhile letterB
/-- The words that begin ahead of a place. -/
def wordsTo (l : List UInt8) (k : Nat) : List (List UInt8) := ((List.range k).filter (startsL l)).map (wordAt l)
/-- The words of a text (folded already). -/
def wordsL (l : List UInt8) : List (List UInt8) := wordsTo l l.length
/-- Texts as the cells of a row. -/
def strVals (ws : List (List UInt8)) : List Value := ws.map fun b => Value.string ⟨b.toArray⟩
theorem strVals_length (ws : List (List UInt8)) : (strVals ws).length = ws.length := by simp [strVals]
theorem strVals_snoc (ws : List (List UInt8)) (b : List UInt8) : strVals (ws ++ [b]) = strVals ws ++ [Value.string ⟨b.toArray⟩] := by simp [strVals]
theorem wordsTo_succ_yes (l : List UInt8) (k : Nat) (h : startsL l k = true) : wordsTo l (k + 1) = wordsTo l k ++ [wordAt l k] := by
  simp [wordsTo, List.range_succ, h]
theorem wordsTo_succ_no (l : List UInt8) (k : Nat) (h : startsL l k = false) : wordsTo l (k + 1) = wordsTo l k := by
  simp [wordsTo, List.range_succ, h]
theorem wordsTo_le (l : List UInt8) (k : Nat) : (wordsTo l k).length ≤ k := by
  unfold wordsTo
  rw [List.length_map]
  have := List.length_filter_le (startsL l) (List.range k)
  simpa using this
theorem getD_get (s : ByteArray) (k : Nat) (h : k < s.size) : s.data.toList.getD k 0 = s[k] := by
  rw [List.getD_eq_getElem?_getD, List.getElem?_eq_getElem (by simpa using h)]; rfl

/-- How far a run of letters reaches: what the inner loop of Words keeps. -/
def runTo (l : List UInt8) (i to : Nat) : Prop := i ≤ to ∧ to ≤ l.length ∧ ∀ j, i ≤ j → j < to → letterB (l.getD j 0) = true
theorem takeWhile_run (p : UInt8 → Bool) : ∀ (l : List UInt8) (n : Nat), n ≤ l.length → (∀ j, j < n → p (l.getD j 0) = true) → (n = l.length ∨ p (l.getD n 0) = false) → l.takeWhile p = l.take n := by
  intro l
  induction l with
  | nil => intro n h _ _; simp
  | cons c l ih =>
    intro n h hall hend
    cases n with
    | zero =>
      rcases hend with h0 | h0
      · simp at h0
      · simp at h0; simp [h0]
    | succ n =>
      have h0 := hall 0 (by omega)
      simp at h0
      rw [List.takeWhile_cons, h0, List.take_succ_cons]
      simp only [if_true]
      rw [ih n (by simpa using h) (fun j hj => by have := hall (j + 1) (by omega); simpa using this) ?_]
      rcases hend with h1 | h1
      · left; simpa using h1
      · right; simpa using h1
theorem wordAt_run (l : List UInt8) (i to : Nat) (h : runTo l i to) (hend : to = l.length ∨ letterB (l.getD to 0) = false) : wordAt l i = (l.drop i).take (to - i) := by
  obtain ⟨h1, h2, h3⟩ := h
  have eg : ∀ j, (l.drop i).getD j 0 = l.getD (i + j) 0 := by intro j; simp [List.getD_eq_getElem?_getD, List.getElem?_drop]
  refine takeWhile_run letterB (l.drop i) (to - i) (by simp; omega) (fun j hj => ?_) ?_
  · rw [eg]; exact h3 _ (by omega) (by omega)
  · rcases hend with h | h
    · left; simp; omega
    · right; rw [eg, show i + (to - i) = to by omega]; exact h

theorem runTo_start (l : List UInt8) (k : Nat) (hk : k ≤ l.length) : runTo l k k := ⟨Nat.le_refl _, hk, fun _ _ _ => by omega⟩
theorem runTo_more (l : List UInt8) (k t : Nat) (h : runTo l k t) (ht : t < l.length) (hl : letterB (l.getD t 0) = true) : runTo l k (t + 1) :=
  ⟨by have := h.1; omega, by omega, fun j h1 h2 => by
    by_cases e : j = t
    · rw [e]; exact hl
    · exact h.2.2 j h1 (by omega)⟩
theorem extract_word (f : ByteArray) (k t : Nat) (h : runTo f.data.toList k t) (hend : t = f.size ∨ letterB (f.data.toList.getD t 0) = false) :
    f.extract k t = ⟨(wordAt f.data.toList k).toArray⟩ := by
  rw [wordAt_run _ k t h (by simpa using hend)]
  apply ByteArray.ext
  rw [ByteArray.data_extract]
  apply Array.toList_inj.1
  simp

theorem mem_get (s : ByteArray) (k : Nat) (h : k < s.size) : s[k] ∈ s.data.toList := by
  have : s[k] = s.data.toList[k]'(by simpa using h) := rfl
  rw [this]; exact List.getElem_mem _

theorem ret_bool {a b : Bool} (h : a = b) : Ending.returned (.bool a) = .returned (.bool b) := by rw [h]
theorem ret_str {a b : ByteArray} (h : a = b) : Ending.returned (.string a) = .returned (.string b) := by rw [h]
theorem ret_int {k : IntKind} {a b : Int} (h : a = b) : Ending.returned (.int k a) = .returned (.int k b) := by rw [h]

end Go.Proofs.YtocbogeoffeolaaGreatDoor
