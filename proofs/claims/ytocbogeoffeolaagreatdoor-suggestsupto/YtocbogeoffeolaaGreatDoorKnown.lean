/-
  PLAIN MATHEMATICS: all words, in order, each once (hintref's known).
-/
import Derived.Test.YtocbogeoffeolaaGreatDoorCount
namespace Go.Proofs.YtocbogeoffeolaaGreatDoor
open Go.RowKit

def atOf (out : List Wd) (x : Wd) : Nat := (out.takeWhile fun y => Op.bytesLess y x).length
def insW (out : List Wd) (x : Wd) : List Wd := if out[atOf out x]? = some x then out else out.take (atOf out x) ++ ([x] ++ out.drop (atOf out x))
def knownTo (out : List Wd) (t : List Wd) (k : Nat) : List Wd := (t.take k).foldl insW out
def knownL (ts : List (List Wd)) : List Wd := ts.foldl (fun out t => t.foldl insW out) []

theorem atOf_le (out : List Wd) (x : Wd) : atOf out x ≤ out.length := (List.takeWhile_sublist _).length_le
theorem takeWhile_len {α : Type} (p : α → Bool) : ∀ (l : List α) (n : Nat) (hn : n ≤ l.length), (∀ j (h : j < n), p (l[j]'(by omega)) = true) → (∀ h : n < l.length, p l[n] = false) → (l.takeWhile p).length = n := by
  intro l
  induction l with
  | nil => intro n hn _ _; simp at hn; simp [hn]
  | cons c l ih =>
    intro n hn h1 h2
    cases n with
    | zero => have := h2 (by simp); simp at this; simp [this]
    | succ n =>
      have h0 := h1 0 (by omega)
      simp at h0
      rw [List.takeWhile_cons, h0]
      simp only [if_true, List.length_cons]
      rw [ih n (by simpa using hn) (fun j hj => by have := h1 (j + 1) (by omega); simpa using this) (fun hh => by have := h2 (by simpa using hh); simpa using this)]
theorem atOf_eq (out : List Wd) (x : Wd) (n : Nat) (hn : n ≤ out.length) (h1 : ∀ j (h : j < n), Op.bytesLess (out[j]'(by omega)) x = true) (h2 : ∀ h : n < out.length, Op.bytesLess out[n] x = false) : atOf out x = n :=
  takeWhile_len _ out n hn h1 h2
theorem insW_len (out : List Wd) (x : Wd) : (insW out x).length ≤ out.length + 1 := by
  unfold insW
  have := atOf_le out x
  split
  · omega
  · simp; omega
theorem knownTo_succ (out t : List Wd) (k : Nat) (h : k < t.length) : knownTo out t (k + 1) = insW (knownTo out t k) t[k] := by
  unfold knownTo
  rw [List.take_succ_eq_append_getElem h, List.foldl_append]; rfl
theorem knownL_succ (ts : List (List Wd)) (i : Nat) (h : i < ts.length) : knownL (ts.take (i + 1)) = knownTo (knownL (ts.take i)) ts[i] ts[i].length := by
  unfold knownL knownTo
  rw [List.take_succ_eq_append_getElem h, List.foldl_append, List.take_length]; rfl
theorem foldl_ins_len (t : List Wd) : ∀ out, (t.foldl insW out).length ≤ out.length + t.length := by
  induction t with
  | nil => intro out; simp
  | cons x t ih => intro out; have := ih (insW out x); have := insW_len out x; simp only [List.foldl_cons, List.length_cons]; omega
theorem knownTo_len (out t : List Wd) (k : Nat) : (knownTo out t k).length ≤ out.length + k := by
  have := foldl_ins_len (t.take k) out
  unfold knownTo
  simp at this ⊢; omega
theorem knownL_len (ts : List (List Wd)) (i : Nat) (hi : i ≤ ts.length) : (knownL (ts.take i)).length ≤ bulkT (ts.take i) := by
  induction i with
  | zero => simp [knownL]
  | succ i ih =>
    have h := ih (by omega)
    rw [knownL_succ ts i (by omega), bulkT_take ts i (by omega)]
    have := knownTo_len (knownL (ts.take i)) ts[i] ts[i].length
    omega

end Go.Proofs.YtocbogeoffeolaaGreatDoor
