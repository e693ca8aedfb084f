/-
  PLAIN MATHEMATICS: which words come first (hintref's Suggest): the best of what is left, again and again.
-/
import Derived.Test.YtocbogeoffeolaaGreatDoorScore
namespace Go.Proofs.YtocbogeoffeolaaGreatDoor
open Go.RowKit

abbrev Fr := Nat × Nat
def better (ab : List Fr) (i j : Nat) : Bool := decide ((ab.getD j (0, 0)).1 * (ab.getD i (0, 0)).2 < (ab.getD i (0, 0)).1 * (ab.getD j (0, 0)).2)
def bestTo (ab : List Fr) (told : List Bool) : Nat → Option Nat
  | 0 => none
  | i + 1 => if told.getD i false = true then bestTo ab told i else
    match bestTo ab told i with
    | none => some i
    | some j => if better ab i j = true then some i else some j
def picks (ab : List Fr) : List Bool → Nat → List Nat
  | _, 0 => []
  | told, n + 1 => match bestTo ab told ab.length with
    | none => []
    | some b => b :: picks ab (told.set b true) n
/-- What is told already behind so many picks. -/
def toldTo (ab : List Fr) : List Bool → Nat → List Bool
  | told, 0 => told
  | told, n + 1 => match bestTo ab told ab.length with
    | none => told
    | some b => toldTo ab (told.set b true) n
def abL (ts : List (List Wd)) (l : List Wd) : List Fr := (knownL ts).map (scoreL ts l)
def suggestL (ts : List (List Wd)) (l : List Wd) (most : Nat) : List Wd :=
  (picks (abL ts l) (List.replicate (knownL ts).length false) (min most (knownL ts).length)).map fun i => (knownL ts).getD i []

theorem bestTo_lt (ab : List Fr) (told : List Bool) : ∀ (i j : Nat), bestTo ab told i = some j → j < i ∧ told.getD j false = false := by
  intro i
  induction i with
  | zero => intro j h; simp [bestTo] at h
  | succ i ih =>
    intro j h
    unfold bestTo at h
    split at h
    · have := ih j h; exact ⟨by omega, this.2⟩
    · rename_i ht
      split at h
      · simp at h; subst h; exact ⟨by omega, by simpa using ht⟩
      · rename_i j' hj'
        split at h
        · simp at h; subst h; exact ⟨by omega, by simpa using ht⟩
        · simp at h; subst h; have := ih j' hj'; exact ⟨by omega, this.2⟩
theorem bestTo_none (ab : List Fr) (told : List Bool) : ∀ (i : Nat), bestTo ab told i = none → ∀ j, j < i → told.getD j false = true := by
  intro i
  induction i with
  | zero => intro _ j h; omega
  | succ i ih =>
    intro h j hj
    unfold bestTo at h
    split at h
    · rename_i ht
      by_cases e : j = i
      · subst e; exact ht
      · exact ih h j (by omega)
    · split at h
      · simp at h
      · split at h <;> simp at h
def toldN (told : List Bool) : Nat := told.count true
theorem count_set (told : List Bool) : ∀ b, b < told.length → told.getD b false = false → (told.set b true).count true = told.count true + 1 := by
  induction told with
  | nil => intro b h; simp at h
  | cons t told ih =>
    intro b h1 h2
    cases b with
    | zero =>
      simp at h2
      subst h2
      simp
    | succ b =>
      have := ih b (by simpa using h1) (by simpa using h2)
      simp only [List.set_cons_succ, List.count_cons, this]
      omega
theorem all_true_count (told : List Bool) (h : ∀ j, j < told.length → told.getD j false = true) : told.count true = told.length := by
  induction told with
  | nil => rfl
  | cons t told ih =>
    have h0 := h 0 (by simp)
    simp at h0
    subst h0
    have := ih (fun j hj => by have := h (j + 1) (by simpa using hj); simpa using this)
    simp [this]
theorem best_some (ab : List Fr) (told : List Bool) (hl : told.length = ab.length) (hc : told.count true < ab.length) : ∃ b, bestTo ab told ab.length = some b := by
  cases h : bestTo ab told ab.length with
  | some b => exact ⟨b, rfl⟩
  | none =>
    have := all_true_count told (fun j hj => bestTo_none ab told ab.length h j (by omega))
    omega

theorem picks_snoc (ab : List Fr) : ∀ (r : Nat) (told : List Bool) (b : Nat), bestTo ab (toldTo ab told r) ab.length = some b →
    picks ab told (r + 1) = picks ab told r ++ [b] ∧ toldTo ab told (r + 1) = (toldTo ab told r).set b true := by
  intro r
  induction r with
  | zero => intro told b h; simp only [toldTo] at h; simp [picks, toldTo, h]
  | succ r ih =>
    intro told b h
    cases h0 : bestTo ab told ab.length with
    | none => simp only [toldTo, h0] at h; exact absurd h (by simp)
    | some b0 =>
      have h' : bestTo ab (toldTo ab (told.set b0 true) r) ab.length = some b := by simpa only [toldTo, h0] using h
      have := ih (told.set b0 true) b h'
      constructor
      · rw [picks, h0]
        simp only
        rw [this.1]
        conv => rhs; rw [picks, h0]
        rfl
      · rw [toldTo, h0]
        simp only
        rw [this.2]
        conv => rhs; rw [toldTo, h0]
theorem toldTo_len (ab : List Fr) : ∀ (r : Nat) (told : List Bool), (toldTo ab told r).length = told.length := by
  intro r
  induction r with
  | zero => intro told; rfl
  | succ r ih =>
    intro told
    unfold toldTo
    split
    · rfl
    · rw [ih]; simp
theorem scoreL_le (ts : List (List Wd)) (l : List Wd) (x : Wd) : (scoreL ts l x).1 ≤ 16 * bulkT ts ∧ (scoreL ts l x).2 ≤ 100 * bulkT ts := by
  have h1 := totalW_le ts
  unfold scoreL
  split
  · have := countL_le ts [l.getD (l.length - 2) [], l.getD (l.length - 1) [], x]
    have := countL_le ts [l.getD (l.length - 2) [], l.getD (l.length - 1) []]
    unfold c3L
    exact ⟨by simp only; omega, by simp only; omega⟩
  · split
    · have := countL_le ts [l.getD (l.length - 1) [], x]
      have := countL_le ts [l.getD (l.length - 1) []]
      unfold c2L
      exact ⟨by simp only; omega, by simp only; omega⟩
    · have := countL_le ts [x]
      exact ⟨by simp only; omega, by simp only; omega⟩

def aboveTo (ts : List (List Wd)) (l ws : List Wd) (k : Nat) : List Nat := ((ws.take k).map (scoreL ts l)).map (·.1)
def belowTo (ts : List (List Wd)) (l ws : List Wd) (k : Nat) : List Nat := ((ws.take k).map (scoreL ts l)).map (·.2)
theorem aboveTo_succ (ts : List (List Wd)) (l ws : List Wd) (k : Nat) (h : k < ws.length) : aboveTo ts l ws (k + 1) = aboveTo ts l ws k ++ [(scoreL ts l ws[k]).1] := by
  unfold aboveTo
  rw [List.take_succ_eq_append_getElem h, List.map_append, List.map_append]; rfl
theorem belowTo_succ (ts : List (List Wd)) (l ws : List Wd) (k : Nat) (h : k < ws.length) : belowTo ts l ws (k + 1) = belowTo ts l ws k ++ [(scoreL ts l ws[k]).2] := by
  unfold belowTo
  rw [List.take_succ_eq_append_getElem h, List.map_append, List.map_append]; rfl

theorem aboveTo_len (ts : List (List Wd)) (l ws : List Wd) : (aboveTo ts l ws ws.length).length = ws.length := by simp [aboveTo]
theorem belowTo_len (ts : List (List Wd)) (l ws : List Wd) : (belowTo ts l ws ws.length).length = ws.length := by simp [belowTo]
theorem aboveTo_get (ts : List (List Wd)) (l ws : List Wd) (j : Nat) (h : j < ws.length) : (aboveTo ts l ws ws.length).getD j 0 = ((ws.map (scoreL ts l)).getD j (0, 0)).1 ∧ (aboveTo ts l ws ws.length).getD j 0 ≤ 16 * bulkT ts := by
  have := scoreL_le ts l ws[j]
  simp [aboveTo, List.getD_eq_getElem?_getD, h, this.1]
theorem belowTo_get (ts : List (List Wd)) (l ws : List Wd) (j : Nat) (h : j < ws.length) : (belowTo ts l ws ws.length).getD j 0 = ((ws.map (scoreL ts l)).getD j (0, 0)).2 ∧ (belowTo ts l ws ws.length).getD j 0 ≤ 100 * bulkT ts := by
  have := scoreL_le ts l ws[j]
  simp [belowTo, List.getD_eq_getElem?_getD, h, this.2]
def bestInt : Option Nat → Int
  | none => -1
  | some j => (j : Int)
theorem bestTo_told (ab : List Fr) (told : List Bool) (i : Nat) (h : told.getD i false = true) : bestTo ab told (i + 1) = bestTo ab told i := by simp only [bestTo]; rw [if_pos h]
theorem bestTo_first (ab : List Fr) (told : List Bool) (i : Nat) (h : told.getD i false = false) (hn : bestTo ab told i = none) : bestTo ab told (i + 1) = some i := by simp only [bestTo]; rw [if_neg (by rw [h]; simp), hn]
theorem bestTo_better (ab : List Fr) (told : List Bool) (i j : Nat) (h : told.getD i false = false) (hn : bestTo ab told i = some j) (hb : better ab i j = true) : bestTo ab told (i + 1) = some i := by simp only [bestTo]; rw [if_neg (by rw [h]; simp), hn]; simp [hb]
theorem bestTo_worse (ab : List Fr) (told : List Bool) (i j : Nat) (h : told.getD i false = false) (hn : bestTo ab told i = some j) (hb : better ab i j = false) : bestTo ab told (i + 1) = some j := by simp only [bestTo]; rw [if_neg (by rw [h]; simp), hn]; simp [hb]
def outTo (ab : List Fr) (ws : List Wd) (r : Nat) : List Wd := (picks ab (List.replicate ws.length false) r).map fun i => ws.getD i []
def tolds (ab : List Fr) (n r : Nat) : List Bool := toldTo ab (List.replicate n false) r
theorem outTo_succ (ab : List Fr) (ws : List Wd) (r b : Nat) (h : bestTo ab (tolds ab ws.length r) ab.length = some b) : outTo ab ws (r + 1) = outTo ab ws r ++ [ws.getD b []] := by
  unfold outTo
  rw [(picks_snoc ab r _ b h).1, List.map_append]; rfl
theorem tolds_succ (ab : List Fr) (n r b : Nat) (h : bestTo ab (tolds ab n r) ab.length = some b) : tolds ab n (r + 1) = (tolds ab n r).set b true := (picks_snoc ab r _ b h).2
theorem tolds_len (ab : List Fr) (n r : Nat) : (tolds ab n r).length = n := by unfold tolds; rw [toldTo_len]; simp

end Go.Proofs.YtocbogeoffeolaaGreatDoor
