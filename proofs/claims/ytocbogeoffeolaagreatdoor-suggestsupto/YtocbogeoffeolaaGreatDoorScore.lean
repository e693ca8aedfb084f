/-
  PLAIN MATHEMATICS: the score of a word behind others (hintref's score): a fraction.
-/
import Derived.Test.YtocbogeoffeolaaGreatDoorKnown
namespace Go.Proofs.YtocbogeoffeolaaGreatDoor
open Go.RowKit

def totalW (ts : List (List Wd)) : Nat := (ts.map fun t => t.length).sum
def c3L (ts : List (List Wd)) (l : List Wd) (x : Wd) : Nat := countL ts [l.getD (l.length - 2) [], l.getD (l.length - 1) [], x]
def c2L (ts : List (List Wd)) (l : List Wd) (x : Wd) : Nat := countL ts [l.getD (l.length - 1) [], x]
def scoreL (ts : List (List Wd)) (l : List Wd) (x : Wd) : Nat × Nat :=
  if 1 < l.length ∧ 0 < c3L ts l x then (c3L ts l x, countL ts [l.getD (l.length - 2) [], l.getD (l.length - 1) []])
  else if 0 < l.length ∧ 0 < c2L ts l x then (4 * c2L ts l x, 10 * countL ts [l.getD (l.length - 1) []])
  else (16 * countL ts [x], 100 * totalW ts)

theorem totalW_take (ts : List (List Wd)) (i : Nat) (h : i < ts.length) : totalW (ts.take (i + 1)) = totalW (ts.take i) + ts[i].length := by
  unfold totalW
  rw [List.take_succ_eq_append_getElem h, List.map_append, List.sum_append]; rfl
theorem totalW_le (ts : List (List Wd)) : totalW ts ≤ bulkT ts := by
  induction ts with
  | nil => simp [totalW, bulkT]
  | cons t ts ih => simp only [totalW, bulkT, List.map_cons, List.sum_cons] at ih ⊢; omega

end Go.Proofs.YtocbogeoffeolaaGreatDoor
