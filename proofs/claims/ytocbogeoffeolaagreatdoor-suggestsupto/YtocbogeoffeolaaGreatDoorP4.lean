/-
  WALKS: the program's own: a run made of words.
-/
import Derived.Test.YtocbogeoffeolaaGreatDoorP3
import Derived.Test.YtocbogeoffeolaaGreatDoorW8
namespace Go.Proofs.YtocbogeoffeolaaGreatDoor
open Go.RowKit Go.Maps

theorem Tryz.infoStr1 : (Tryz.prog.info? 9).map (·.size) = some 1 := by kernel_rfl
/-- An array of three empty strings. -/
def threeE : Obj := .cells #[.string ⟨#[]⟩, .string ⟨#[]⟩, .string ⟨#[]⟩] 143
def kstr (ws : List Wd) (j : Nat) : Value := .string ⟨(ws.getD j []).toArray⟩

theorem setCells_heap {b : Nat} {t : TypeId} {fz : Nat × Nat} : ∀ (vs : List Value) (o : Nat) (w : World) (cs : Array Value), w.heap[b]? = some (.cells cs t fz) →
    ∃ cs', (w.setCells b o vs).heap[b]? = some (.cells cs' t fz) ∧ cs'.size = cs.size ∧ (∀ j, j < o ∨ o + vs.length ≤ j → cs'[j]? = cs[j]?) ∧ (∀ j, o + j < cs.size → j < vs.length → cs'[o + j]? = vs[j]?) := by
  intro vs
  induction vs with
  | nil => intro o w cs h; exact ⟨cs, h, rfl, fun _ _ => rfl, fun j _ hj => by simp at hj⟩
  | cons v vs ih =>
    intro o w cs h
    obtain ⟨cs', h1, h2, h3, h4⟩ := ih (o + 1) (w.setCell ⟨b, o, none⟩ v) _ (heap_set h o v)
    refine ⟨cs', h1, by simpa using h2, fun j hj => ?_, fun j hj hj2 => ?_⟩
    · rw [h3 j (by simp at hj; omega)]
      simp only [Array.getElem?_setIfInBounds]
      rw [if_neg (by simp at hj; omega)]
    · cases j with
      | zero =>
        rw [h3 (o + 0) (by omega)]
        simp only [Array.getElem?_setIfInBounds, Nat.add_zero, if_true, List.getElem?_cons_zero]
        rw [if_pos (by omega)]
      | succ j =>
        have := h4 j (by simp; omega) (by simpa using hj2)
        rw [show o + (j + 1) = o + 1 + j by omega, this]
        simp

theorem setCells_other {b : Nat} : ∀ (vs : List Value) (o : Nat) (w : World) (k : Nat), k ≠ b → (w.setCells b o vs).heap[k]? = w.heap[k]? := by
  intro vs
  induction vs with
  | nil => intro o w k _; rfl
  | cons v vs ih =>
    intro o w k hk
    rw [World.setCells, ih (o + 1) _ k hk, Below.heap_setCell _ _ _ _ hk]
theorem setCells_below {b B : Nat} {w0 : World} (hB : B ≤ b) : ∀ (vs : List Value) (o : Nat) (w : World), Below B w0 w → Below B w0 (w.setCells b o vs) := by
  intro vs
  induction vs with
  | nil => intro o w h; exact h
  | cons v vs ih =>
    intro o w h
    rw [World.setCells]
    exact ih (o + 1) _ (h.setCell hB _)

theorem heap_new (w : World) (o : Obj) : (w.alloc o).heap[w.heap.size]? = some o := by simp [World.alloc, -World.alloc_eq]
set_option maxRecDepth 100000 in
theorem copy_three (w : World) (a : Option Addr) (c : Nat) (ws : List Wd) (hr : ∀ j u, (strVals ws)[j]? = some u → ∃ b off, a = some ⟨b, off, none⟩ ∧ w.cell? ⟨b, off + j, none⟩ = some u) (h3 : ws.length ≤ 3) :
    ∃ W2 v, (Builtin.copy_ #[31, 31] 3 #[.slice (some ⟨w.heap.size + 1, 0, none⟩) 3 3, .slice a ws.length c]).run Tryz.prog ((w.alloc threeE).alloc threeE) = .ok v W2 ∧
      W2.heap[w.heap.size + 1]? = some (.cells #[kstr ws 0, kstr ws 1, kstr ws 2] 143 (0, 0)) ∧ W2.heap[w.heap.size]? = some (.cells #[.string ⟨#[]⟩, .string ⟨#[]⟩, .string ⟨#[]⟩] 143 (0, 0)) ∧ Below w.heap.size w W2 := by
  have hb : Below w.heap.size w ((w.alloc threeE).alloc threeE) := ((Below.refl _ _).alloc (Nat.le_refl _) _).alloc (by simp) _
  have hA1 : ((w.alloc threeE).alloc threeE).heap[w.heap.size + 1]? = some (.cells #[.string ⟨#[]⟩, .string ⟨#[]⟩, .string ⟨#[]⟩] 143 (0, 0)) := by
    have e : w.heap.size + 1 = (w.alloc threeE).heap.size := by simp
    rw [e]
    exact heap_new _ _
  have hA0 : ((w.alloc threeE).alloc threeE).heap[w.heap.size]? = some (.cells #[.string ⟨#[]⟩, .string ⟨#[]⟩, .string ⟨#[]⟩] 143 (0, 0)) := by
    rw [Below.heap_alloc _ _ _ (by simp)]
    exact heap_new _ _
  by_cases h0 : ws = []
  · subst h0
    exact ⟨_, _, run_copy_none (P := Tryz.prog) _ _ _ _ 9 _ _ 3 3 0 c Tryz.underlying31 Tryz.infoStr1 rfl, hA1, hA0, hb⟩
  · have hpos : 0 < ws.length := List.length_pos_iff.2 h0
    obtain ⟨b, o, rfl, _⟩ := hr 0 _ (strVals_get ws 0 hpos)
    have hcp := run_copy_cells (P := Tryz.prog) ((w.alloc threeE).alloc threeE) 31 31 3 9 (w.heap.size + 1) 0 3 3 ⟨b, o, none⟩ ws.length c (strVals ws) Tryz.underlying31 Tryz.infoStr1 (by rw [strVals_length]; simp [Nat.min_def]; omega)
      (fun j v hj => by
        obtain ⟨b', o', e, hc⟩ := hr j v hj
        simp only [Option.some.injEq, Addr.mk.injEq] at e
        obtain ⟨rfl, rfl, _⟩ := e
        have e2 : (⟨b, o, none⟩ : Addr).add j = ⟨b, o + j, none⟩ := by
          unfold Addr.add
          split
          · rename_i h; rw [h]; rfl
          · rfl
        rw [e2]
        exact cell_later hb hc)
      (fun j hj => by
        rw [strVals_length] at hj
        rw [cell_of_heap hA1]
        have : j < 3 := by omega
        match j, this with
        | 0, _ => rfl
        | 1, _ => rfl
        | 2, _ => rfl)
      (fun j _ => frozen_of_heap hA1 _) strVals_one
    obtain ⟨cs', g1, g2, g3, g4⟩ := setCells_heap (strVals ws) 0 _ _ hA1
    refine ⟨_, _, hcp, ?_, ?_, ?_⟩
    · rw [g1]
      congr 1
      congr 1
      apply Array.ext_getElem?
      intro j
      by_cases hj : j < ws.length
      · have := g4 j (by simp; omega) (by rw [strVals_length]; exact hj)
        rw [Nat.zero_add] at this
        rw [this, strVals_getD ws j hj]
        have : j < 3 := by omega
        match j, this with
        | 0, _ => rfl
        | 1, _ => rfl
        | 2, _ => rfl
      · rw [g3 j (Or.inr (by rw [strVals_length]; omega))]
        have hg : ws.getD j [] = [] := by rw [List.getD_eq_getElem?_getD, List.getElem?_eq_none (by omega)]; rfl
        by_cases h3' : j < 3
        · match j, h3' with
          | 0, _ => show _ = some (kstr ws 0); unfold kstr; rw [hg]; rfl
          | 1, _ => show _ = some (kstr ws 1); unfold kstr; rw [hg]; rfl
          | 2, _ => show _ = some (kstr ws 2); unfold kstr; rw [hg]; rfl
        · rw [Array.getElem?_eq_none (by simp; omega), Array.getElem?_eq_none (by simp; omega)]
    · rw [setCells_other _ _ _ _ (by omega)]; exact hA0
    · exact setCells_below (by omega) _ _ _ hb

set_option maxHeartbeats 400000 in
set_option maxRecDepth 100000 in
theorem runOf_any (v : Value) (ws : List Wd) (w : World) (hv : Rd w v (strVals ws)) (h3 : ws.length ≤ 3) :
    Calls Tryz.prog 93 #[v] w fun e w' => e = .returned (keyV ws) ∧ Below w.heap.size w w' := by
  obtain ⟨a, c, rfl, hc, hm, hr⟩ := hv
  rw [strVals_length] at hc ⊢
  obtain ⟨W2, v2, hcp, hK, hE, hb⟩ := copy_three w a c ws hr h3
  unfold threeE at hcp
  have c0 : W2.cell? ⟨w.heap.size + 1, 0, none⟩ = some (kstr ws 0) := cell_of_heap hK 0
  have c1 : W2.cell? ⟨w.heap.size + 1, 1, none⟩ = some (kstr ws 1) := cell_of_heap hK 1
  have c2 : W2.cell? ⟨w.heap.size + 1, 2, none⟩ = some (kstr ws 2) := cell_of_heap hK 2
  have d0 : W2.cell? ⟨w.heap.size, 0, none⟩ = some (.string ⟨#[]⟩) := cell_of_heap hE 0
  have d1 : W2.cell? ⟨w.heap.size, 1, none⟩ = some (.string ⟨#[]⟩) := cell_of_heap hE 1
  have d2 : W2.cell? ⟨w.heap.size, 2, none⟩ = some (.string ⟨#[]⟩) := cell_of_heap hE 2
  have f0 : W2.frozen? ⟨w.heap.size, 0, none⟩ = false := frozen_of_heap hE 0
  have f1 : W2.frozen? ⟨w.heap.size, 1, none⟩ = false := frozen_of_heap hE 1
  have f2 : W2.frozen? ⟨w.heap.size, 2, none⟩ = false := frozen_of_heap hE 2
  rw [show keyV ws = .agg #[kstr ws 0, kstr ws 1, kstr ws 2] from rfl]
  unfold kstr at *
  generalize (⟨(ws.getD 0 []).toArray⟩ : ByteArray) = s0 at *
  generalize (⟨(ws.getD 1 []).toArray⟩ : ByteArray) = s1 at *
  generalize (⟨(ws.getD 2 []).toArray⟩ : ByteArray) = s2 at *
  clear hK hE hr
  go_enter Tryz.func93, Tryz.ntmps93
  go_wp2
  refine bodyPost_ret (v := .agg #[.string s0, .string s1, .string s2]) (by simp [results, Tryz.results93, go_sem, d0, d1, d2]) rfl ⟨rfl, ?_⟩
  exact ((hb.setCell (Nat.le_refl _) _).setCell (Nat.le_refl _) _).setCell (Nat.le_refl _) _

end Go.Proofs.YtocbogeoffeolaaGreatDoor
