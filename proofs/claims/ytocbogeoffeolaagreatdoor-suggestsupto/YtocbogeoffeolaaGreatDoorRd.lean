/-
  READING A SLICE: 'Rd w v xs': the slice v reads as the cells xs.
-/
import Derived.Test.YtocbogeoffeolaaGreatDoorCount
import Derived.WalkKit
import Derived.WalkSpells
import Derived.Deep.Draws
import Derived.WalkSmall
namespace Go.Proofs.YtocbogeoffeolaaGreatDoor
open Go.RowKit

/-- A statement that reads alone, walked by itself, apart from all that follows. -/
theorem wp_quietly {P : Program} {s : Code} {Q : Exit → Act → World → Prop} {a : Act} {w : World} (fr : Act)
    (first : s.wp P (fun e a' w' => e = .normal ∧ a' = fr ∧ ∃ n, w' = w.drewN n) a w) (rest : ∀ n, Q .normal fr (w.drewN n)) : s.wp P Q a w := by
  refine wp_mono first ?_
  rintro e a' w' ⟨rfl, rfl, n, rfl⟩
  exact rest n

def Rd (w : World) (v : Value) (xs : List Value) : Prop :=
  ∃ a cap, v = .slice a xs.length cap ∧ xs.length ≤ cap ∧ cap ≤ maxLen ∧ ∀ j u, xs[j]? = some u → ∃ b off, a = some ⟨b, off, none⟩ ∧ w.cell? ⟨b, off + j, none⟩ = some u

theorem Rd.of_owns {w : World} {base e n : Nat} {v : Value} {xs : List Value} (h : w.ownsRow base e 1 v n xs) : Rd w v xs := by
  have h0 := h
  obtain ⟨hl, h⟩ := h
  rcases h with ⟨rfl, rfl⟩ | ⟨g, cap, cur, rfl, _, hg, hn, hcm, hcs, htk⟩
  · have : xs = [] := by simpa using hl
    subst this
    exact ⟨none, 0, rfl, Nat.le_refl _, by unfold maxLen; omega, by simp⟩
  · have e : n = xs.length := by omega
    refine ⟨some ⟨g, 0, none⟩, cap, by rw [e], by omega, hcm, fun j u hj => ⟨g, 0, rfl, ?_⟩⟩
    have := h0.cells (g := g) rfl j u hj
    have e2 : (⟨g, 0, none⟩ : Addr).add j = ⟨g, 0 + j, none⟩ := by
      unfold Addr.add
      split
      · rename_i h; rw [h]
      · rfl
    rw [e2] at this
    exact this

theorem Rd.nil (w : World) : Rd w (.slice none 0 0) [] := ⟨none, 0, rfl, Nat.le_refl _, by unfold maxLen; omega, by simp⟩

theorem strVals_get (ws : List Wd) (j : Nat) (h : j < ws.length) : (strVals ws)[j]? = some (.string ⟨ws[j].toArray⟩) := by
  simp [strVals, h]

/-- The texts of an engine: a slice of slices of strings. -/
def TextsR (w : World) (v : Value) (ts : List (List Wd)) : Prop :=
  ∃ vs : List Value, vs.length = ts.length ∧ Rd w v vs ∧ ∀ i (h : i < ts.length), ∃ u, vs[i]? = some u ∧ Rd w u (strVals ts[i])

end Go.Proofs.YtocbogeoffeolaaGreatDoor
