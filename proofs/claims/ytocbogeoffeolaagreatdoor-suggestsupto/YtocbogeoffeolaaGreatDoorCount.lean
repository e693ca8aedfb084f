/-
  PLAIN MATHEMATICS: how often words stand behind one another (hintref's count).
-/
import Derived.Test.YtocbogeoffeolaaGreatDoorPlain
namespace Go.Proofs.YtocbogeoffeolaaGreatDoor
open Go.RowKit

/-- A word. -/
abbrev Wd := List UInt8

def sameTo (t ws : List Wd) (k j : Nat) : Bool := decide ((t.drop k).take j = ws.take j)
def hitAt (t ws : List Wd) (k : Nat) : Bool := sameTo t ws k ws.length
def countInTo (t ws : List Wd) (k : Nat) : Nat := ((List.range k).filter (hitAt t ws)).length
def countIn (t ws : List Wd) : Nat := countInTo t ws (t.length + 1 - ws.length)
def countL (ts : List (List Wd)) (ws : List Wd) : Nat := (ts.map fun t => countIn t ws).sum
/-- How large a list of texts is. -/
def bulkT (ts : List (List Wd)) : Nat := (ts.map fun t => t.length + 1).sum

theorem sameTo_zero (t ws : List Wd) (k : Nat) : sameTo t ws k 0 = true := by simp [sameTo]
theorem sameTo_succ (t ws : List Wd) (k j : Nat) (h1 : k + j < t.length) (h2 : j < ws.length) :
    sameTo t ws k (j + 1) = (sameTo t ws k j && (t[k + j] == ws[j])) := by
  unfold sameTo
  have e1 : (t.drop k).take (j + 1) = (t.drop k).take j ++ [t[k + j]] := by
    rw [List.take_succ_eq_append_getElem (by simp; omega)]; simp
  have e2 : ws.take (j + 1) = ws.take j ++ [ws[j]] := List.take_succ_eq_append_getElem h2
  rw [e1, e2, Bool.eq_iff_iff]
  simp only [Bool.and_eq_true, decide_eq_true_eq, beq_iff_eq]
  constructor
  · intro h
    have := List.append_inj' h rfl
    exact ⟨this.1, by simpa using this.2⟩
  · rintro ⟨a, b⟩; rw [a, b]
theorem countInTo_yes (t ws : List Wd) (k : Nat) (h : hitAt t ws k = true) : countInTo t ws (k + 1) = countInTo t ws k + 1 := by
  simp [countInTo, List.range_succ, h]
theorem countInTo_no (t ws : List Wd) (k : Nat) (h : hitAt t ws k = false) : countInTo t ws (k + 1) = countInTo t ws k := by
  simp [countInTo, List.range_succ, h]
theorem countInTo_le (t ws : List Wd) (k : Nat) : countInTo t ws k ≤ k := by
  have := List.length_filter_le (hitAt t ws) (List.range k)
  simpa [countInTo] using this
theorem countIn_le (t ws : List Wd) : countIn t ws ≤ t.length + 1 := by
  have := countInTo_le t ws (t.length + 1 - ws.length)
  unfold countIn; omega
theorem countL_take (ts : List (List Wd)) (ws : List Wd) (i : Nat) (h : i < ts.length) : countL (ts.take (i + 1)) ws = countL (ts.take i) ws + countIn ts[i] ws := by
  unfold countL
  rw [List.take_succ_eq_append_getElem h, List.map_append, List.sum_append]; rfl
theorem bulkT_take (ts : List (List Wd)) (i : Nat) (h : i < ts.length) : bulkT (ts.take (i + 1)) = bulkT (ts.take i) + (ts[i].length + 1) := by
  unfold bulkT
  rw [List.take_succ_eq_append_getElem h, List.map_append, List.sum_append]; rfl
theorem bulkT_le (ts : List (List Wd)) (i : Nat) : bulkT (ts.take i) ≤ bulkT ts := by
  have : bulkT ts = bulkT (ts.take i) + bulkT (ts.drop i) := by
    unfold bulkT; rw [← List.sum_append, ← List.map_append, List.take_append_drop]
  omega
theorem countL_le (ts : List (List Wd)) (ws : List Wd) : countL ts ws ≤ bulkT ts := by
  induction ts with
  | nil => simp [countL, bulkT]
  | cons t ts ih =>
    have h := countIn_le t ws
    simp only [countL, bulkT, List.map_cons, List.sum_cons] at ih ⊢
    omega
theorem length_le_bulkT (ts : List (List Wd)) : ts.length ≤ bulkT ts := by
  induction ts with
  | nil => simp
  | cons t ts ih => simp only [bulkT, List.map_cons, List.sum_cons, List.length_cons] at ih ⊢; omega
theorem len_le_bulkT (ts : List (List Wd)) (i : Nat) (h : i < ts.length) : ts[i].length + 1 ≤ bulkT ts := by
  have := bulkT_take ts i h
  have := bulkT_le ts (i + 1)
  omega

end Go.Proofs.YtocbogeoffeolaaGreatDoor
