/-
  WALKS: the document's own answer: Suggest.
-/
import Derived.Test.YtocbogeoffeolaaGreatDoorW5
import Derived.Test.YtocbogeoffeolaaGreatDoorPick
namespace Go.Proofs.YtocbogeoffeolaaGreatDoor
open Go.RowKit

def intVals (l : List Nat) : List Value := l.map fun (n : Nat) => Value.int .i64 (n : Int)
def boolVals (l : List Bool) : List Value := l.map Value.bool
theorem intVals_length (l : List Nat) : (intVals l).length = l.length := by simp [intVals]
theorem boolVals_length (l : List Bool) : (boolVals l).length = l.length := by simp [boolVals]
theorem intVals_snoc (l : List Nat) (n : Nat) : intVals (l ++ [n]) = intVals l ++ [Value.int .i64 n] := by simp [intVals]
theorem intVals_get (l : List Nat) (j : Nat) (h : j < l.length) : (intVals l)[j]? = some (.int .i64 (l.getD j 0)) := by
  simp [intVals, List.getD_eq_getElem?_getD, h]
theorem boolVals_get (l : List Bool) (j : Nat) (h : j < l.length) : (boolVals l)[j]? = some (.bool (l.getD j false)) := by
  simp [boolVals, List.getD_eq_getElem?_getD, h]

theorem Tryz.info3 : (Tryz.prog.info? 3).map (fun i => (i.zero, i.size, i.bytes)) = some (some (.int .i64 0), 1, 8) := by kernel_rfl
theorem Tryz.info4 : (Tryz.prog.info? 4).map (fun i => (i.zero, i.size, i.bytes)) = some (some (.bool false), 1, 1) := by kernel_rfl

theorem made_false (n : Nat) : (madeCells #[Value.bool false] n).toList = boolVals (List.replicate n false) := by
  apply List.ext_getElem
  · simp [madeCells, boolVals]
  · intro i h1 h2
    simp [madeCells, boolVals, Nat.mod_one]

theorem mul_fits (x y : Nat) (hx : x ≤ 268435456) (hy : y ≤ 1677721600) : 0 ≤ (x : Int) * (y : Int) ∧ (x : Int) * (y : Int) ≤ 4611686018427387904 := by
  have h := Nat.mul_le_mul hx hy
  have e : (x : Int) * (y : Int) = ((x * y : Nat) : Int) := by simp
  rw [e]
  constructor
  · omega
  · have : 268435456 * 1677721600 ≤ 4611686018427387904 := by decide
    omega
theorem mul_lt_cast (x y z t : Nat) : ((x : Int) * (y : Int) < (z : Int) * (t : Int)) ↔ x * y < z * t := by
  have e1 : (x : Int) * (y : Int) = ((x * y : Nat) : Int) := by simp
  have e2 : (z : Int) * (t : Int) = ((z * t : Nat) : Int) := by simp
  rw [e1, e2]; omega

/-- The length in a slot: for a loop's measure. -/
def lenV : Value → Nat | .slice _ n _ => n | _ => 0

/-- Rows of different types of elements lie in different blocks. -/
theorem owns_ne {w : World} {b1 b2 e1 e2 n1 n2 : Nat} {v1 v2 : Value} {x1 x2 : List Value} (h1 : w.ownsRow b1 e1 1 v1 n1 x1) (h2 : w.ownsRow b2 e2 1 v2 n2 x2) (hne : e1 ≠ e2) : v1.ownBlock = none ∨ v1.ownBlock ≠ v2.ownBlock := by
  rcases h1.2 with ⟨rfl, _⟩ | ⟨g, cap, cur, rfl, _, hg, _⟩
  · exact Or.inl rfl
  · right
    rcases h2.2 with ⟨rfl, _⟩ | ⟨g2, cap2, cur2, rfl, _, hg2, _⟩
    · simp [Value.ownBlock]
    · intro he
      simp only [Value.ownBlock, Option.some.injEq] at he
      rw [he, hg2] at hg
      simp only [Option.some.injEq, Obj.cells.injEq] at hg
      exact hne hg.2.1.symm

/-- An owned row where nothing that was there has turned. -/
theorem owns_below {w w' : World} {base e n : Nat} {v : Value} {xs : List Value} (h : w.ownsRow base e 1 v n xs) (hb : Below w.heap.size w w') : w'.ownsRow base e 1 v n xs :=
  h.kept (row := none) ⟨hb.os, hb.tape, hb.output, hb.size, fun k hk _ => hb.block k hk⟩ (by cases v.ownBlock <;> simp)

theorem owns_cell {w : World} {base e n m c : Nat} {a : Option Addr} {xs : List Value} (h : w.ownsRow base e 1 (.slice a m c) n xs) (k : Nat) (u : Value) (hk : xs[k]? = some u) : ∃ b off, a = some ⟨b, off, none⟩ ∧ w.cell? ⟨b, off + k, none⟩ = some u := by
  obtain ⟨a', c', he, _, _, hr⟩ := Rd.of_owns h
  simp only [Value.slice.injEq] at he
  rw [he.1]
  exact hr k u hk

theorem owns_frozen {w : World} {base e n m c g : Nat} {xs : List Value} (h : w.ownsRow base e 1 (.slice (some ⟨g, 0, none⟩) m c) n xs) (o : Nat) : w.frozen? ⟨g, o, none⟩ = false := by
  rcases h.2 with ⟨h, _⟩ | ⟨g', cap, cur, he, _, hg, _⟩
  · simp at h
  · simp only [Value.slice.injEq, Option.some.injEq, Addr.mk.injEq] at he
    obtain ⟨⟨rfl, _⟩, _⟩ := he
    simp [World.frozen?, hg]

theorem owns_set {w : World} {base e n m c g : Nat} {xs : List Value} (h : w.ownsRow base e 1 (.slice (some ⟨g, 0, none⟩) m c) n xs) (k : Nat) (v : Value) (hk : k < n) :
    (w.setCell ⟨g, k, none⟩ v).ownsRow base e 1 (.slice (some ⟨g, 0, none⟩) m c) n (xs.set k v) := by
  obtain ⟨h1, h2⟩ := h
  refine ⟨by simpa using h1, ?_⟩
  rcases h2 with ⟨h, _⟩ | ⟨g', cap, cur, he, hb, hg, h3, h4, h5, h6⟩
  · simp at h
  · have he' := he
    simp only [Value.slice.injEq, Option.some.injEq, Addr.mk.injEq] at he'
    obtain ⟨⟨rfl, _⟩, rfl, rfl⟩ := he'
    refine Or.inr ⟨g, c, cur.setIfInBounds k v, rfl, hb, ?_, h3, h4, by simpa using h5, ?_⟩
    · simp only [World.setCell, Array.getElem?_modify, hg]
      simp
    · rw [Array.toList_setIfInBounds, List.take_set, h6]

theorem owns_set_other {w : World} {base e n : Nat} {v : Value} {xs : List Value} (h : w.ownsRow base e 1 v n xs) (a : Addr) (u : Value) (hne : v.ownBlock ≠ some a.block) : (w.setCell a u).ownsRow base e 1 v n xs := by
  obtain ⟨h1, h2⟩ := h
  refine ⟨h1, ?_⟩
  rcases h2 with h2 | ⟨g', cap, cur, rfl, hb, hg, h3⟩
  · exact Or.inl h2
  · refine Or.inr ⟨g', cap, cur, rfl, hb, ?_, h3⟩
    rw [Below.heap_setCell _ _ _ _ (fun e => hne (by simp [Value.ownBlock, e]))]
    exact hg

theorem cell_new' {w : World} {b : Nat} {v : Value} {t : TypeId} (hb : b = w.heap.size) : (w.alloc (.cells #[v] t)).cell? ⟨b, 0, none⟩ = some v := by
  subst hb; exact cell_new

theorem owns_blk_lt {w : World} {base e n : Nat} {v : Value} {xs : List Value} (h : w.ownsRow base e 1 v n xs) : v.ownBlock ≠ some w.heap.size := by
  intro he
  have := h.lt _ he
  omega

/-- A row stays apart from one that has been appended to. -/
theorem apart_after {w : World} {N base e n : Nat} {v u u' : Value} {xs : List Value} (h : w.ownsRow base e 1 v n xs) (hsz : w.heap.size ≤ N) (hne : v.ownBlock = none ∨ v.ownBlock ≠ u.ownBlock)
    (hb : u'.ownBlock = u.ownBlock ∨ u'.ownBlock = some N) : v.ownBlock = none ∨ v.ownBlock ≠ u'.ownBlock := by
  rcases hne with hne | hne
  · exact Or.inl hne
  · right
    rcases hb with hb | hb
    · rw [hb]; exact hne
    · rw [hb]; intro he; have := h.lt _ he; omega

theorem ne_symm {v u : Value} (h : v.ownBlock = none ∨ v.ownBlock ≠ u.ownBlock) : u.ownBlock = none ∨ u.ownBlock ≠ v.ownBlock := by
  rcases h with h | h
  · cases hu : u.ownBlock with
    | none => exact Or.inl rfl
    | some k => right; rw [h]; simp
  · exact Or.inr (fun e => h e.symm)

set_option maxHeartbeats 400000 in
theorem refSuggest_arg (b : Nat) (s : ByteArray) (most : Int) (w : World) (h : most < 1 ∨ 20 < most) :
    Calls Tryz.prog 115 #[.pointer (some ⟨b, 0, none⟩), .string s, .int .i64 most] w fun e w' => e = .returned (.tuple #[.slice none 0 0, .int .i64 3]) ∧ w = w' := by
  rcases h with h | h
  · go_enter Tryz.func115, Tryz.ntmps115
    go_wp2
    go_ret2
    exact ⟨rfl, rfl⟩
  · have h' : ¬ most < 1 := by omega
    go_enter Tryz.func115, Tryz.ntmps115
    go_wp2
    go_ret2
    exact ⟨rfl, rfl⟩

set_option maxHeartbeats 400000 in
theorem refSuggest_text (b : Nat) (s : ByteArray) (most : Int) (w : World) (h0 : 1 ≤ most) (h1 : most ≤ 20) (hs : s.size ≤ maxLen) (hq : queryB s.data.toList = false) :
    Calls Tryz.prog 115 #[.pointer (some ⟨b, 0, none⟩), .string s, .int .i64 most] w fun e w' => e = .returned (.tuple #[.slice none 0 0, .int .i64 2]) ∧ w = w' := by
  go_enter Tryz.func115, Tryz.ntmps115
  go_wp2_with fail
  refine (isQuery_any s _ hs).mono ?_
  rintro e w' ⟨rfl, rfl⟩
  rw [hq]
  go_wp2
  go_ret2
  exact ⟨rfl, rfl⟩

end Go.Proofs.YtocbogeoffeolaaGreatDoor
