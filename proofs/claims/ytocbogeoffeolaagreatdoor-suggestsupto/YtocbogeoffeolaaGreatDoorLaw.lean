/-
  WHAT IS ASKED OF THE PROGRAM: its engine as far as words go, with a footprint; New, Observe, Suggest. And what Suggest tells.
-/
import Derived.Test.YtocbogeoffeolaaGreatDoorW10
namespace Go.Proofs.YtocbogeoffeolaaGreatDoor
open Go.RowKit

/-- What Suggest tells, and its answer. -/
def sugL (ts : List (List Wd)) (s : List UInt8) (most : Int) : List Wd × Nat :=
  if most < 1 ∨ 20 < most then ([], 3) else if queryB s = true then (suggestL ts (wordsL (foldL s)) most.toNat, 0) else ([], 2)

/-- The program's table of weights is laid as its text lays it. -/
def WOk (w : World) : Prop := w.cell? ⟨0, 0, none⟩ = some (.int .u64 4) ∧ w.cell? ⟨0, 1, none⟩ = some (.int .u64 10) ∧ w.cell? ⟨0, 2, none⟩ = some (.int .u64 25)
theorem WOk.below {w w' : World} (h : WOk w) (hb : Below w.heap.size w w') : WOk w' := ⟨cell_later hb h.1, cell_later hb h.2.1, cell_later hb h.2.2⟩

/-- The program's engine: pe w F b ts: in the world w the pointer to block b is an engine that has observed the texts ts; F: its footprint. -/
structure ProgOK (pe : World → (Nat → Prop) → Nat → List (List Wd) → Prop) : Prop where
  lt : ∀ {w : World} {F : Nat → Prop} {b : Nat} {ts : List (List Wd)}, pe w F b ts → ∀ k, F k → k < w.heap.size
  stay : ∀ {w w' : World} {F : Nat → Prop} {b : Nat} {ts : List (List Wd)}, pe w F b ts → w.heap.size ≤ w'.heap.size → (∀ k, F k → w'.heap[k]? = w.heap[k]?) → pe w' F b ts
  new : ∀ w : World, Calls Tryz.prog 31 #[] w fun e w' => ∃ (b : Nat) (F : Nat → Prop), e = .returned (.pointer (some ⟨b, 0, none⟩)) ∧ pe w' F b [] ∧ (∀ k, F k → w.heap.size ≤ k) ∧ Below w.heap.size w w'
  observe : ∀ (w : World) (F : Nat → Prop) (b : Nat) (ts : List (List Wd)) (s : ByteArray), pe w F b ts → bulkT ts ≤ 16777216 → s.size ≤ maxLen →
    Calls Tryz.prog 34 #[.pointer (some ⟨b, 0, none⟩), .string s] w fun e w' => e = .returned (.int .i64 (obsL ts s.data.toList).1) ∧
      ∃ F' : Nat → Prop, pe w' F' b (obsL ts s.data.toList).2 ∧ (∀ k, F' k → F k ∨ w.heap.size ≤ k) ∧ FrameF F w w'
  suggest : ∀ (w : World) (F : Nat → Prop) (b : Nat) (ts : List (List Wd)) (s : ByteArray) (most : Int), WOk w → pe w F b ts → bulkT ts ≤ 16777216 → s.size ≤ maxLen → -9223372036854775808 ≤ most → most ≤ 9223372036854775807 →
    Calls Tryz.prog 35 #[.pointer (some ⟨b, 0, none⟩), .string s, .int .i64 most] w fun e w' => ∃ v, e = .returned (.tuple #[v, .int .i64 (sugL ts s.data.toList most).2]) ∧
      w'.ownsRow w.heap.size 9 1 v (sugL ts s.data.toList most).1.length (strVals (sugL ts s.data.toList most).1) ∧ Below w.heap.size w w'

theorem picks_len (ab : List Fr) : ∀ (n : Nat) (told : List Bool), (picks ab told n).length ≤ n := by
  intro n
  induction n with
  | zero => intro told; simp [picks]
  | succ n ih =>
    intro told
    unfold picks
    split
    · simp
    · rename_i b _
      have := ih (told.set b true)
      simp only [List.length_cons]
      omega
theorem suggestL_len (ts : List (List Wd)) (l : List Wd) (most : Nat) : (suggestL ts l most).length ≤ most := by
  unfold suggestL
  rw [List.length_map]
  have := picks_len (abL ts l) (min most (knownL ts).length) (List.replicate (knownL ts).length false)
  omega
theorem sugL_len (ts : List (List Wd)) (s : List UInt8) (most : Int) : (sugL ts s most).1.length ≤ 20 := by
  unfold sugL
  split
  · simp
  · split
    · have := suggestL_len ts (wordsL (foldL s)) most.toNat
      simp only
      omega
    · simp

/-- The document's Observe, whatever is handed in. -/
theorem refObserve (F : Nat → Prop) (b : Nat) (vB vS : Value) (ts : List (List Wd)) (s : ByteArray) (w : World) (hF : ∀ k, F k → k < w.heap.size) (hR : RefT w F b vB vS ts) (hs : s.size ≤ maxLen) (hB : bulkT ts ≤ 16777216) :
    Calls Tryz.prog 114 #[.pointer (some ⟨b, 0, none⟩), .string s] w fun e w' => e = .returned (.int .i64 (obsL ts s.data.toList).1) ∧
      RefT w' (Grow F w w') b vB vS (obsL ts s.data.toList).2 ∧ FrameF F w w' := by
  by_cases h : queryB s.data.toList = true ∧ s.data.toList ≠ []
  · exact refObserve_ok F b vB vS ts s w hF hR h.1 h.2 (by omega)
  · have e : obsL ts s.data.toList = (2, ts) := by unfold obsL; rw [if_neg h]
    rw [e]
    refine (refObserve_bad b s w hs h).mono ?_
    rintro e w' ⟨rfl, rfl⟩
    refine ⟨rfl, ?_, FrameF.refl _ _⟩
    obtain ⟨vT, h1, h2, h3⟩ := hR
    exact ⟨vT, h1, Or.inl h2, h3.stay (fun _ _ => rfl) (fun _ hk => Or.inl hk)⟩

/-- The document's Suggest, whatever is handed in. -/
theorem refSuggest (F : Nat → Prop) (b : Nat) (vB vS : Value) (ts : List (List Wd)) (s : ByteArray) (most : Int) (w : World) (hR : RefT w F b vB vS ts) (hs : s.size ≤ maxLen) (hB : bulkT ts ≤ 16777216) :
    Calls Tryz.prog 115 #[.pointer (some ⟨b, 0, none⟩), .string s, .int .i64 most] w fun e w' => ∃ v, e = .returned (.tuple #[v, .int .i64 (sugL ts s.data.toList most).2]) ∧
      w'.ownsRow w.heap.size 9 1 v (sugL ts s.data.toList most).1.length (strVals (sugL ts s.data.toList most).1) ∧ Below w.heap.size w w' := by
  obtain ⟨vT, hhb, hFb, hT⟩ := hR
  have hc : w.cell? ⟨b, 2, none⟩ = some vT := by rw [cell_of_heap hhb]; rfl
  by_cases h : most < 1 ∨ 20 < most
  · have e : sugL ts s.data.toList most = ([], 3) := by unfold sugL; rw [if_pos h]
    rw [e]
    refine (refSuggest_arg b s most w h).mono ?_
    rintro e w' ⟨rfl, rfl⟩
    exact ⟨_, rfl, World.ownsRow_nil _ _ _ _, Below.refl _ _⟩
  · by_cases hq : queryB s.data.toList = true
    · obtain ⟨m, rfl⟩ : ∃ m : Nat, most = (m : Int) := ⟨most.toNat, by omega⟩
      have e : sugL ts s.data.toList (m : Int) = (suggestL ts (wordsL (foldL s.data.toList)) m, 0) := by unfold sugL; rw [if_neg h, if_pos hq]; rfl
      rw [e]
      exact refSuggest_ok b vT ts s m w (by omega) (by omega) hq hc hT.reads hB
    · have hq' : queryB s.data.toList = false := by simpa using hq
      have e : sugL ts s.data.toList most = ([], 2) := by unfold sugL; rw [if_neg h, if_neg hq]
      rw [e]
      refine (refSuggest_text b s most w (by omega) (by omega) hs hq').mono ?_
      rintro e w' ⟨rfl, rfl⟩
      exact ⟨_, rfl, World.ownsRow_nil _ _ _ _, Below.refl _ _⟩

end Go.Proofs.YtocbogeoffeolaaGreatDoor
