/-
  WALKS: the program's own: the comparison that the sort is given.
-/
import Derived.Test.YtocbogeoffeolaaGreatDoorP9
namespace Go.Proofs.YtocbogeoffeolaaGreatDoor
open Go.RowKit Go.Sort

set_option maxHeartbeats 1000000 in
set_option maxRecDepth 100000 in
theorem ccmp_any (a b : Wd) (p q r t : Nat) (w : World) (hp : p ≤ 419430400) (hq : q ≤ 16777217) (hr : r ≤ 419430400) (ht : t ≤ 16777217) :
    Calls Tryz.prog 97 #[.agg #[.string ⟨a.toArray⟩, .int .u64 (p : Int), .int .u64 (q : Int)], .agg #[.string ⟨b.toArray⟩, .int .u64 (r : Int), .int .u64 (t : Int)]] w fun e w' => e = .returned (.int .i64 (if cmpN (r * q) (p * t) ≠ 0 then cmpN (r * q) (p * t) else Lib.compareBytes a b)) ∧ ∃ k os, w' = grow (w.drewN k) os := by
  have h1 := fun W => scmp_any r t p q W hr ht hp hq
  have h2 : ∀ W : World, Calls Tryz.prog 139 #[.string ⟨a.toArray⟩, .string ⟨b.toArray⟩] W fun e w' => e = .returned (.int .i64 (Lib.compareBytes a b)) ∧ W = w' := fun W => by
    refine (Any.strings_Compare Tryz.lays106 ⟨a.toArray⟩ ⟨b.toArray⟩ W).mono ?_
    rintro e w' ⟨rfl, rfl⟩
    exact ⟨rfl, rfl⟩
  obtain ⟨z, hz⟩ : ∃ z, z = cmpN (r * q) (p * t) := ⟨_, rfl⟩
  obtain ⟨y, hy⟩ : ∃ y, y = Lib.compareBytes a b := ⟨_, rfl⟩
  rw [← hz] at h1 ⊢
  rw [← hy] at h2 ⊢
  obtain ⟨res, hres⟩ : ∃ res, res = if z ≠ 0 then z else y := ⟨_, rfl⟩
  rw [← hres]
  have hor : ∀ (g : Nat) (W : World), W.cell? ⟨g, 0, none⟩ = some (.int .i64 z) → W.cell? ⟨g, 1, none⟩ = some (.int .i64 y) → Calls Tryz.prog 126 #[.slice (some ⟨g, 0, none⟩) 2 2] W fun e w' => e = .returned (.int .i64 res) ∧ W = w' := fun g W k1 k2 => by
    rw [hres]
    exact or2_any z y g W k1 k2
  clear hz hy hres
  obtain ⟨W0, hW0⟩ : ∃ W0, W0 = (w.alloc (.cells #[.string ⟨a.toArray⟩, .int .u64 (p : Int), .int .u64 (q : Int)] 150)).alloc (.cells #[.string ⟨b.toArray⟩, .int .u64 (r : Int), .int .u64 (t : Int)] 150) := ⟨_, rfl⟩
  have hA : ∀ j, W0.cell? ⟨w.heap.size, j, none⟩ = (#[Value.string ⟨a.toArray⟩, .int .u64 (p : Int), .int .u64 (q : Int)] : Array Value)[j]? := fun j => by
    rw [hW0, World.cell?_alloc_past _ _ _ (by simp), World.cell?_alloc_at _ _ _ _ rfl]
  have hBc : ∀ j, W0.cell? ⟨w.heap.size + 1, j, none⟩ = (#[Value.string ⟨b.toArray⟩, .int .u64 (r : Int), .int .u64 (t : Int)] : Array Value)[j]? := fun j => by
    rw [hW0, World.cell?_alloc_at _ _ _ _ (by simp)]
  have hz0 : W0.heap.size = w.heap.size + 2 := by rw [hW0]; simp
  have hg0 : ∃ os, W0 = grow w os := ⟨_, by rw [hW0, alloc_eq_grow, alloc_eq_grow, grow_grow]⟩
  have h1' : Calls Tryz.prog 138 #[.agg #[.int .u64 (r : Int), .int .u64 (t : Int)], .agg #[.int .u64 (p : Int), .int .u64 (q : Int)]] W0.drew fun e w1 => e = .returned (.int .i64 z) ∧ (∃ k os, w1 = grow (w.drewN k) os) ∧ w1.cell? ⟨w.heap.size, 0, none⟩ = some (.string ⟨a.toArray⟩) ∧ w1.cell? ⟨w.heap.size + 1, 0, none⟩ = some (.string ⟨b.toArray⟩) := by
    refine (h1 W0.drew).mono ?_
    rintro e w1 ⟨rfl, k, os, rfl⟩
    refine ⟨rfl, ?_, ?_, ?_⟩
    · obtain ⟨os0, hos⟩ := hg0
      refine ⟨1 + k, os0 ++ os, ?_⟩
      rw [hos, ← grow_grow, ← drew_drewN]
      rfl
    · rw [cell_grow _ _ _ (by show w.heap.size < W0.heap.size; omega)]
      exact hA 0
    · rw [cell_grow _ _ _ (by show w.heap.size + 1 < W0.heap.size; omega)]
      exact hBc 0
  have a0 : W0.cell? ⟨w.heap.size, 0, none⟩ = some (.string ⟨a.toArray⟩) := hA 0
  have a1 : W0.cell? ⟨w.heap.size, 1, none⟩ = some (.int .u64 (p : Int)) := hA 1
  have a2 : W0.cell? ⟨w.heap.size, 2, none⟩ = some (.int .u64 (q : Int)) := hA 2
  have b0 : W0.cell? ⟨w.heap.size + 1, 0, none⟩ = some (.string ⟨b.toArray⟩) := hBc 0
  have b1 : W0.cell? ⟨w.heap.size + 1, 1, none⟩ = some (.int .u64 (r : Int)) := hBc 1
  have b2 : W0.cell? ⟨w.heap.size + 1, 2, none⟩ = some (.int .u64 (t : Int)) := hBc 2
  clear h1 hA hBc hz0 hg0
  go_enter Tryz.func97, Tryz.ntmps97
  go_wp2_with fail
  rw [← hW0]
  clear hW0
  go_region_law (first
    | (go_simp
       go_at_call 138
       refine h1'.mono ?_
       rintro e w1 ⟨rfl, hgw, hc1, hc2⟩)
    | (go_simp
       go_at_call 139
       refine (h2 _).mono ?_
       rintro e w' ⟨rfl, rfl⟩)
    | (go_simp
       go_at_call 126
       refine (hor _ _ (cell2 (by rfl)).1 (cell2 (by rfl)).2).mono ?_
       rintro e w' ⟨rfl, rfl⟩))
  all_goals
    go_wp2
    go_ret
    obtain ⟨k, os, rfl⟩ := hgw
    exact ⟨rfl, k, _, by rw [alloc_eq_grow, grow_grow]⟩

end Go.Proofs.YtocbogeoffeolaaGreatDoor
