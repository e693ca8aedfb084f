/-
  WALKS: the program's own: two candidates held one against the other.
  WALKS: the program's own: two leaves held one against the other; the sort of leaves.
  WALKS: the program's own: the sort of leaves.
  WALKS: the program's own: sortedLeaves.
  WALKS: the program's own: Pack.
  WALKS: the program's own: packUnlessEmpty, unpackStrange; Flush.
  WALKS: the program's own: Flush.
  WALKS: the program's own: Load.
  WALKS: the program's own: New, as far as entries go.
  WALKS: the program's own: slices.Replace over segments: two out, one in at most.
-/
import Derived.Test.YtocbogeoffeolaaGreatDoorSegAA
import Derived.Test.YtocbogeoffeolaaGreatDoorSegAB
import Derived.Test.YtocbogeoffeolaaGreatDoorSegAD
import Derived.Test.YtocbogeoffeolaaGreatDoorSegAE
import Derived.Test.YtocbogeoffeolaaGreatDoorSegAK
import Derived.Test.YtocbogeoffeolaaGreatDoorSegAL
import Derived.Shelf.Strings.FieldsFuncAny
import Derived.Shelf.Bits.Mul64
import Derived.Shelf.Small.Strs
import Derived.Shelf.SlSortCmp.WholeK
import Derived.Shelf.SlSortCmp.NoneTotal
import Derived.Shelf.SlGeneric
import Derived.Test.YtocbogeoffeolaaGreatDoorProg
import Derived.Laws.MakeOwn
import Derived.Laws.CopyOwn
namespace Go.Proofs.YtocbogeoffeolaaGreatDoor
open Go.RowKit Go.Sort

set_option maxHeartbeats 400000 in
set_option maxRecDepth 100000 in
theorem or2_any (x y : Int) (g : Nat) (w : World) (h0 : w.cell? ⟨g, 0, none⟩ = some (.int .i64 x)) (h1 : w.cell? ⟨g, 1, none⟩ = some (.int .i64 y)) : Calls Tryz.prog 126 #[.slice (some ⟨g, 0, none⟩) 2 2] w fun e w' => e = .returned (.int .i64 (if x ≠ 0 then x else y)) ∧ w = w' := by
  by_cases hx : x = 0
  · subst hx
    rw [if_neg (by simp)]
    by_cases hy : y = 0
    · subst hy
      go_enter Tryz.func126, Tryz.ntmps126
      go_wp2
      refine wp_loop_rounds 3 ?_
      rw [rounds_succ]
      go_wp2
      rw [rounds_succ]
      go_wp2
      rw [rounds_succ]
      go_wp2
      go_ret
      exact ⟨rfl, rfl⟩
    · have hy' : (y == 0) = false := by simpa using hy
      go_enter Tryz.func126, Tryz.ntmps126
      go_wp2
      refine wp_loop_rounds 2 ?_
      rw [rounds_succ]
      go_wp2
      rw [rounds_succ]
      go_wp2
      go_ret
      exact ⟨rfl, rfl⟩
  · rw [if_pos hx]
    have hx' : (x == 0) = false := by simpa using hx
    go_enter Tryz.func126, Tryz.ntmps126
    go_wp2
    refine wp_loop_rounds 1 ?_
    rw [rounds_succ]
    go_wp2
    go_ret
    exact ⟨rfl, rfl⟩

theorem cell2 {w : World} {x y : Value} {t : TypeId} {g : Nat} (hg : g = w.heap.size) : (w.alloc (.cells #[x, y] t)).cell? ⟨g, 0, none⟩ = some x ∧ (w.alloc (.cells #[x, y] t)).cell? ⟨g, 1, none⟩ = some y := by
  subst hg
  constructor
  · rw [World.cell?_alloc_at _ _ _ _ rfl]; rfl
  · rw [World.cell?_alloc_at _ _ _ _ rfl]; rfl

end Go.Proofs.YtocbogeoffeolaaGreatDoor

namespace Go.Proofs.YtocbogeoffeolaaGreatDoor
open Go.RowKit Go.Maps Go.Sort

def cmpS (x y : Wd) : Int := if Op.bytesLess x y = true then -1 else if Op.bytesLess y x = true then 1 else 0

set_option maxHeartbeats 400000 in
theorem isNaN_any (x : ByteArray) (w : World) : Calls Tryz.prog 175 #[.string x] w fun e w' => e = .returned (.bool false) ∧ w = w' := by
  go_enter Tryz.func175, Tryz.ntmps175
  go_wp2
  go_ret
  exact ⟨rfl, rfl⟩

set_option maxHeartbeats 400000 in
set_option maxRecDepth 100000 in
theorem cmpStr_any (x y : Wd) (w : World) : Calls Tryz.prog 128 #[.string ⟨x.toArray⟩, .string ⟨y.toArray⟩] w fun e w' => e = .returned (.int .i64 (cmpS x y)) ∧ w = w' := by
  have hx := isNaN_any ⟨x.toArray⟩ w
  have hy := isNaN_any ⟨y.toArray⟩ w
  unfold cmpS
  by_cases h1 : Op.bytesLess x y = true
  · rw [if_pos h1]
    go_enter Tryz.func128, Tryz.ntmps128
    go_wp2_with fail
    refine hx.mono ?_
    rintro e w' ⟨rfl, rfl⟩
    go_wp2_with fail
    refine hy.mono ?_
    rintro e w' ⟨rfl, rfl⟩
    go_wp2
    go_ret
    exact ⟨rfl, rfl⟩
  · rw [if_neg h1]
    have h1' : Op.bytesLess x y = false := by simpa using h1
    clear h1
    by_cases h2 : Op.bytesLess y x = true
    · rw [if_pos h2]
      have hne : (x == y) = false := beq_eq_false_iff_ne.2 (fun e => by subst e; rw [h1'] at h2; cases h2)
      clear h2
      go_enter Tryz.func128, Tryz.ntmps128
      go_wp2_with fail
      refine hx.mono ?_
      rintro e w' ⟨rfl, rfl⟩
      go_wp2_with fail
      refine hy.mono ?_
      rintro e w' ⟨rfl, rfl⟩
      go_wp2
      go_ret
      exact ⟨rfl, rfl⟩
    · rw [if_neg h2]
      obtain rfl : x = y := by
        rcases bl_total x y with h | h | h
        · rw [h1'] at h; cases h
        · exact h
        · exact absurd h h2
      clear h2
      go_enter Tryz.func128, Tryz.ntmps128
      go_wp2_with fail
      refine hx.mono ?_
      rintro e w' ⟨rfl, rfl⟩
      go_wp2_with fail
      refine hy.mono ?_
      rintro e w' ⟨rfl, rfl⟩
      go_wp2
      go_ret
      exact ⟨rfl, rfl⟩

def leafL (e : Ent) : List Value := [.string ⟨(keyE e).toArray⟩, .string ⟨e.name.toArray⟩, .string ⟨e.text.toArray⟩, .int .i64 e.weight, .int .i64 e.tags]
def cfE (x y : Ent) : Int := if cmpS (keyE x) (keyE y) ≠ 0 then cmpS (keyE x) (keyE y) else cmpS x.name y.name

set_option maxHeartbeats 2000000 in
set_option maxRecDepth 100000 in
theorem lcmp_any (x y : Ent) (w : World) : Calls Tryz.prog 185 #[.agg #[.string ⟨(keyE x).toArray⟩, .string ⟨x.name.toArray⟩, .string ⟨x.text.toArray⟩, .int .i64 x.weight, .int .i64 x.tags], .agg #[.string ⟨(keyE y).toArray⟩, .string ⟨y.name.toArray⟩, .string ⟨y.text.toArray⟩, .int .i64 y.weight, .int .i64 y.tags]] w fun e w' => e = .returned (.int .i64 (cfE x y)) ∧ ∃ k os, w' = grow (w.drewN k) os := by
  have h1 := fun W => cmpStr_any (keyE x) (keyE y) W
  have h2 := fun W => cmpStr_any x.name y.name W
  unfold cfE
  obtain ⟨z, hz⟩ : ∃ z, z = cmpS (keyE x) (keyE y) := ⟨_, rfl⟩
  obtain ⟨t, ht⟩ : ∃ t, t = cmpS x.name y.name := ⟨_, rfl⟩
  rw [← hz] at h1 ⊢
  rw [← ht] at h2 ⊢
  obtain ⟨res, hres⟩ : ∃ res, res = if z ≠ 0 then z else t := ⟨_, rfl⟩
  rw [← hres]
  have hor : ∀ (g : Nat) (W : World), W.cell? ⟨g, 0, none⟩ = some (.int .i64 z) → W.cell? ⟨g, 1, none⟩ = some (.int .i64 t) → Calls Tryz.prog 126 #[.slice (some ⟨g, 0, none⟩) 2 2] W fun e w' => e = .returned (.int .i64 res) ∧ W = w' := fun g W k1 k2 => by
    rw [hres]
    exact or2_any z t g W k1 k2
  clear hz ht hres
  generalize keyE x = kx at *
  generalize keyE y = ky at *
  obtain ⟨nx, _, tx, wx, gx⟩ := x
  obtain ⟨ny, _, ty, wy, gy⟩ := y
  simp only at h2 ⊢
  obtain ⟨W0, hW0⟩ : ∃ W0, W0 = (w.alloc (.cells #[.string ⟨kx.toArray⟩, .string ⟨nx.toArray⟩, .string ⟨tx.toArray⟩, .int .i64 wx, .int .i64 gx] 237)).alloc (.cells #[.string ⟨ky.toArray⟩, .string ⟨ny.toArray⟩, .string ⟨ty.toArray⟩, .int .i64 wy, .int .i64 gy] 237) := ⟨_, rfl⟩
  have hA : ∀ j, W0.cell? ⟨w.heap.size, j, none⟩ = (#[Value.string ⟨kx.toArray⟩, .string ⟨nx.toArray⟩, .string ⟨tx.toArray⟩, .int .i64 wx, .int .i64 gx] : Array Value)[j]? := fun j => by
    rw [hW0, World.cell?_alloc_past _ _ _ (by simp), World.cell?_alloc_at _ _ _ _ rfl]
  have hBc : ∀ j, W0.cell? ⟨w.heap.size + 1, j, none⟩ = (#[Value.string ⟨ky.toArray⟩, .string ⟨ny.toArray⟩, .string ⟨ty.toArray⟩, .int .i64 wy, .int .i64 gy] : Array Value)[j]? := fun j => by
    rw [hW0, World.cell?_alloc_at _ _ _ _ (by simp)]
  have hg0 : ∃ os, W0 = grow w os := ⟨_, by rw [hW0, alloc_eq_grow, alloc_eq_grow, grow_grow]⟩
  have a0 : W0.cell? ⟨w.heap.size, 0, none⟩ = some (.string ⟨kx.toArray⟩) := hA 0
  have a1 : W0.cell? ⟨w.heap.size, 1, none⟩ = some (.string ⟨nx.toArray⟩) := hA 1
  have b0 : W0.cell? ⟨w.heap.size + 1, 0, none⟩ = some (.string ⟨ky.toArray⟩) := hBc 0
  have b1 : W0.cell? ⟨w.heap.size + 1, 1, none⟩ = some (.string ⟨ny.toArray⟩) := hBc 1
  clear hA hBc
  go_enter Tryz.func185, Tryz.ntmps185
  go_wp2_with fail
  rw [← hW0]
  clear hW0
  have hS : (fun w' : World => w'.cell? ⟨w.heap.size, 0, none⟩ = some (.string ⟨kx.toArray⟩) ∧ w'.cell? ⟨w.heap.size, 1, none⟩ = some (.string ⟨nx.toArray⟩) ∧ w'.cell? ⟨w.heap.size + 1, 0, none⟩ = some (.string ⟨ky.toArray⟩) ∧ w'.cell? ⟨w.heap.size + 1, 1, none⟩ = some (.string ⟨ny.toArray⟩)) W0.drew := ⟨a0, a1, b0, b1⟩
  clear a0 a1 b0 b1
  refine wp_region_held (S := fun w' => w'.cell? ⟨w.heap.size, 0, none⟩ = some (.string ⟨kx.toArray⟩) ∧ w'.cell? ⟨w.heap.size, 1, none⟩ = some (.string ⟨nx.toArray⟩) ∧ w'.cell? ⟨w.heap.size + 1, 0, none⟩ = some (.string ⟨ky.toArray⟩) ∧ w'.cell? ⟨w.heap.size + 1, 1, none⟩ = some (.string ⟨ny.toArray⟩)) (by kernel_rfl) ?_
  refine wpAnyH_take (i := 0) (v := ?_) rfl (by kernel_rfl) (by kernel_rfl) (by kernel_rfl) (fun _ _ _ h => h) (Or.inl ⟨by rfl, ?_⟩) hS ?_
  rotate_left
  · rintro w' ⟨s0, s1, s2, s3⟩; go_simp; first | done | with_reducible rfl
  refine wpAnyH_take (i := 1) (v := ?_) rfl (by kernel_rfl) (by kernel_rfl) (by kernel_rfl) (fun _ _ _ h => h) (Or.inl ⟨by rfl, ?_⟩) hS ?_
  rotate_left
  · rintro w' ⟨s0, s1, s2, s3⟩; go_simp; first | done | with_reducible rfl
  refine wpAnyH_take (i := 2) (v := ?_) rfl (by kernel_rfl) (by kernel_rfl) (by kernel_rfl) (fun _ _ _ h => h) (Or.inl ⟨by rfl, ?_⟩) hS ?_
  rotate_left
  · rintro w' ⟨s0, s1, s2, s3⟩; go_simp; first | done | with_reducible rfl
  refine wpAnyH_take (i := 3) (v := ?_) rfl (by kernel_rfl) (by kernel_rfl) (by kernel_rfl) (fun _ _ _ h => h) (Or.inl ⟨by rfl, ?_⟩) hS ?_
  rotate_left
  · rintro w' ⟨s0, s1, s2, s3⟩; go_simp; first | done | with_reducible rfl
  refine wpAnyH_take (i := 5) (v := ?_) rfl (by kernel_rfl) (by kernel_rfl) (by kernel_rfl) (fun _ _ _ h => h) (Or.inl ⟨by rfl, ?_⟩) hS ?_
  rotate_left
  · rintro w' ⟨s0, s1, s2, s3⟩; go_simp; first | done | with_reducible rfl
  refine wpAnyH_take (i := 6) (v := ?_) rfl (by kernel_rfl) (by kernel_rfl) (by kernel_rfl) (fun _ _ _ h => h) (Or.inl ⟨by rfl, ?_⟩) hS ?_
  rotate_left
  · rintro w' ⟨s0, s1, s2, s3⟩; go_simp; first | done | with_reducible rfl
  refine wpAnyH_take (i := 7) (v := ?_) rfl (by kernel_rfl) (by kernel_rfl) (by kernel_rfl) (fun _ _ _ h => h) (Or.inl ⟨by rfl, ?_⟩) hS ?_
  rotate_left
  · rintro w' ⟨s0, s1, s2, s3⟩; go_simp; first | done | with_reducible rfl
  refine wpAnyH_take (i := 8) (v := ?_) rfl (by kernel_rfl) (by kernel_rfl) (by kernel_rfl) (fun _ _ _ h => h) (Or.inl ⟨by rfl, ?_⟩) hS ?_
  rotate_left
  · rintro w' ⟨s0, s1, s2, s3⟩; go_simp; first | done | with_reducible rfl
  refine wpAnyH_take (i := 9) (v := ?_) rfl (by kernel_rfl) (by kernel_rfl) (by kernel_rfl) (fun _ _ _ h => h) (Or.inl ⟨by rfl, ?_⟩) hS ?_
  rotate_left
  · rintro w' ⟨s0, s1, s2, s3⟩; go_simp; first | done | with_reducible rfl
  refine wpAnyH_take (i := 10) (v := ?_) rfl (by kernel_rfl) (by kernel_rfl) (by kernel_rfl) (fun _ _ _ h => h) (Or.inl ⟨by rfl, ?_⟩) hS ?_
  rotate_left
  · rintro w' ⟨s0, s1, s2, s3⟩; go_simp; first | done | with_reducible rfl
  refine wpAnyH_all (rs := [4]) (by kernel_rfl) (by simp) ?_
  intro i hi
  simp only [List.mem_singleton] at hi
  subst hi
  refine wpOp_step (by rfl) fun K' hK' => ?_
  rw [if_pos (by rfl)]
  unfold Oper.wp
  go_simp
  refine (h1 _).mono ?_
  rintro e w' ⟨rfl, rfl⟩
  refine hK' _ _ ⟨hS, ?_⟩
  clear hK'
  refine wpAnyH_all (rs := [11]) (by kernel_rfl) (by simp) ?_
  intro i hi
  simp only [List.mem_singleton] at hi
  subst hi
  refine wpOp_step (by rfl) fun K' hK' => ?_
  rw [if_pos (by rfl)]
  unfold Oper.wp
  go_simp
  refine (h2 _).mono ?_
  rintro e w' ⟨rfl, rfl⟩
  refine hK' _ _ ⟨hS, ?_⟩
  clear hK'
  refine wpAnyH_all (rs := [12]) (by kernel_rfl) (by simp) ?_
  intro i hi
  simp only [List.mem_singleton] at hi
  subst hi
  refine wpOp_step (by rfl) fun K' hK' => ?_
  rw [if_pos (by rfl)]
  unfold Oper.wp
  go_simp
  have hb1 : Below W0.heap.size W0 (W0.alloc (.cells #[.int .i64 z, .int .i64 t] 3)).drew := by
    have h : Below W0.heap.size W0 (W0.alloc (.cells #[.int .i64 z, .int .i64 t] 3)) := (Below.refl _ _).alloc (Nat.le_refl _) _
    exact ⟨h.os, h.tape, h.output, h.size, h.block⟩
  refine hK' _ _ ⟨⟨cell_later hb1 hS.1, cell_later hb1 hS.2.1, cell_later hb1 hS.2.2.1, cell_later hb1 hS.2.2.2⟩, ?_⟩
  clear hK'
  refine wpAnyH_all (rs := [13]) (by kernel_rfl) (by simp) ?_
  intro i hi
  simp only [List.mem_singleton] at hi
  subst hi
  refine wpOp_step (by rfl) fun K' hK' => ?_
  rw [if_pos (by rfl)]
  unfold Oper.wp
  go_simp
  refine (hor W0.heap.size (W0.alloc (.cells #[.int .i64 z, .int .i64 t] 3)).drew (cell2 (w := W0) (by rfl)).1 (cell2 (w := W0) (by rfl)).2).mono ?_
  rintro e w' ⟨rfl, rfl⟩
  refine hK' _ _ ⟨⟨cell_later hb1 hS.1, cell_later hb1 hS.2.1, cell_later hb1 hS.2.2.1, cell_later hb1 hS.2.2.2⟩, ?_⟩
  clear hK'
  have hS2 : (fun w' : World => w'.cell? ⟨w.heap.size, 0, none⟩ = some (.string ⟨kx.toArray⟩) ∧ w'.cell? ⟨w.heap.size, 1, none⟩ = some (.string ⟨nx.toArray⟩) ∧ w'.cell? ⟨w.heap.size + 1, 0, none⟩ = some (.string ⟨ky.toArray⟩) ∧ w'.cell? ⟨w.heap.size + 1, 1, none⟩ = some (.string ⟨ny.toArray⟩)) (W0.alloc (.cells #[.int .i64 z, .int .i64 t] 3)).drew := ⟨cell_later hb1 hS.1, cell_later hb1 hS.2.1, cell_later hb1 hS.2.2.1, cell_later hb1 hS.2.2.2⟩
  refine wpAnyH_take (i := 14) (v := ?_) rfl (by kernel_rfl) (by kernel_rfl) (by kernel_rfl) (fun _ _ _ h => h) (Or.inl ⟨by rfl, ?_⟩) hS2 ?_
  rotate_left
  · rintro w' ⟨s0, s1, s2, s3⟩; go_simp; first | done | with_reducible rfl
  refine wpAnyH_done (by kernel_rfl) ?_ _
  go_wp2
  go_ret
  obtain ⟨os, rfl⟩ := hg0
  exact ⟨rfl, 1, _, by rw [alloc_eq_grow, grow_grow]; rfl⟩

end Go.Proofs.YtocbogeoffeolaaGreatDoor

namespace Go.Proofs.YtocbogeoffeolaaGreatDoor
open Go.RowKit Go.Maps Go.Sort

theorem cmpS_lt (x y : Wd) : cmpS x y < 0 ↔ Op.bytesLess x y = true := by
  unfold cmpS
  by_cases h1 : Op.bytesLess x y = true
  · simp [h1]
  · by_cases h2 : Op.bytesLess y x = true
    · simp [h1, h2]
    · simp [h1, h2]
theorem cmpS_zero (x y : Wd) : cmpS x y = 0 ↔ x = y := by
  unfold cmpS
  constructor
  · intro h
    rcases bl_total x y with h1 | h1 | h1
    · rw [if_pos h1] at h; cases h
    · exact h1
    · rw [if_neg (by rw [bl_asym h1]; simp), if_pos h1] at h; cases h
  · rintro rfl
    simp [bl_irrefl]
theorem lt_cfE (x y : Ent) : ltOf cfE x y = true ↔ ltK x y := by
  unfold ltOf cfE ltK
  rw [decide_eq_true_eq]
  by_cases h : keyE x = keyE y
  · rw [if_neg (by rw [ne_eq, Classical.not_not]; exact (cmpS_zero _ _).2 h), cmpS_lt, h, bl_irrefl]
    simp
  · rw [if_pos (fun e => h ((cmpS_zero _ _).1 e)), cmpS_lt]
    simp [h]
theorem ltK_trans {a b c : Ent} (h1 : ltK a b) (h2 : ltK b c) : ltK a c := by
  rcases h1 with h1 | ⟨h1, h1'⟩
  · rcases h2 with h2 | ⟨h2, _⟩
    · exact Or.inl (bl_trans _ _ _ h1 h2)
    · exact Or.inl (by rw [← h2]; exact h1)
  · rcases h2 with h2 | ⟨h2, h2'⟩
    · exact Or.inl (by rw [h1]; exact h2)
    · exact Or.inr ⟨h1.trans h2, bl_trans _ _ _ h1' h2'⟩
theorem ltK_total (a b : Ent) : ltK a b ∨ (keyE a = keyE b ∧ a.name = b.name) ∨ ltK b a := by
  rcases bl_total (keyE a) (keyE b) with h | h | h
  · exact Or.inl (Or.inl h)
  · rcases bl_total a.name b.name with h' | h' | h'
    · exact Or.inl (Or.inr ⟨h, h'⟩)
    · exact Or.inr (Or.inl ⟨h, h'⟩)
    · exact Or.inr (Or.inr (Or.inr ⟨h.symm, h'⟩))
  · exact Or.inr (Or.inr (Or.inl h))
theorem ltK_irrefl (a : Ent) : ¬ ltK a a := by
  unfold ltK
  simp [bl_irrefl]
theorem ltK_like {a b c : Ent} (h : keyE a = keyE b ∧ a.name = b.name) (h2 : ltK a c) : ltK b c := by
  unfold ltK at *
  rw [← h.1, ← h.2]
  exact h2
theorem swo_cfE : SWO (ltOf cfE) where
  irrefl x := by
    have := ltK_irrefl x
    rw [← lt_cfE] at this
    simpa using this
  trans x y z h1 h2 := by rw [lt_cfE] at *; exact ltK_trans h1 h2
  ntrans x y z h1 h2 := by
    cases hh : ltOf cfE x z with
    | false => rfl
    | true =>
      rw [lt_cfE] at hh
      have n1 : ¬ ltK x y := by rw [← lt_cfE, h1]; simp
      have n2 : ¬ ltK y z := by rw [← lt_cfE, h2]; simp
      rcases ltK_total x y with h | h | h
      · exact absurd h n1
      · exact absurd (ltK_like h hh) n2
      · exact absurd (ltK_trans h hh) n2

def leafVals (es : List Ent) : List Value := es.flatMap leafL
theorem leafVals_snoc (es : List Ent) (x : Ent) : leafVals (es ++ [x]) = leafVals es ++ leafL x := by simp [leafVals]
theorem leafVals_get : ∀ (ws : List Ent) (i c : Nat) (h : i < ws.length), c < 5 → (leafVals ws)[i * 5 + c]? = (leafL ws[i])[c]? := by
  intro ws
  induction ws with
  | nil => intro i c h; simp at h
  | cons a l ih =>
    intro i c h hc
    have e : leafVals (a :: l) = leafL a ++ leafVals l := by simp [leafVals]
    rw [e]
    cases i with
    | zero => rw [List.getElem?_append_left (by simp [leafL]; omega)]; simp
    | succ i =>
      rw [List.getElem?_append_right (by simp [leafL]; omega)]
      have hl : (leafL a).length = 5 := rfl
      rw [hl, show (i + 1) * 5 + c - 5 = i * 5 + c by omega, ih i c (by simpa using h) hc]
      simp
theorem leafL_one (x : Ent) : ∀ v ∈ leafL x, v.oneCell' = true := by
  intro v hv
  simp [leafL] at hv
  rcases hv with rfl | rfl | rfl | rfl | rfl <;> rfl
instance : Inhabited Ent := ⟨⟨[], false, [], 0, 0⟩⟩

theorem holds_leaf {w : World} {base e n m cap g : Nat} {ws : List Ent} (h : w.ownsRow base e 5 (.slice (some ⟨g, 0, none⟩) m cap) n (leafVals ws)) (hn : n = ws.length) : HoldsK leafL 5 w g 0 ws.toArray := by
  subst hn
  intro j hj
  rw [size_flatK] at hj
  have hj' : j < ws.length * 5 := by simpa using hj
  have hd : j / 5 < ws.length := by omega
  have hget : (leafVals ws)[j]? = some ((flatK leafL 5 ws.toArray)[j]!) := by
    rw [get_flatK _ _ _ _ (by simpa using hj')]
    have := leafVals_get ws (j / 5) (j % 5) hd (by omega)
    rw [show j / 5 * 5 + j % 5 = j by omega] at this
    rw [this]
    have e1 : ws.toArray[j / 5]! = ws[j / 5] := by rw [getElem!_pos _ _ (by simpa using hd)]; simp
    rw [e1]
    have hc : j % 5 < (leafL ws[j / 5]).length := by simp [leafL]; omega
    rw [List.getElem?_eq_getElem hc, getElem!_pos (leafL ws[j / 5]) (j % 5) hc]
  rcases h.2 with ⟨h0, _⟩ | ⟨g', cap', cur, he, _, hg, _, _, hcs, htk⟩
  · simp at h0
  · simp only [Value.slice.injEq, Option.some.injEq, Addr.mk.injEq] at he
    obtain ⟨⟨rfl, _⟩, _, rfl⟩ := he
    refine ⟨?_, ?_⟩
    · rw [cell_of_heap hg]
      rw [← htk, List.getElem?_take, if_pos (by omega)] at hget
      rw [Nat.zero_add]
      simpa using hget
    · simp [World.frozen?, hg]
theorem sortE_below {base : Nat} {w : World} {k blk off m : Nat} {enc : Ent → List Value} {d : Array Ent} {os : Array Obj} (hb : base ≤ blk) (hlt : blk < w.heap.size) : Below base w (sortWorldK enc k w blk off m d os) := by
  refine ⟨rfl, rfl, rfl, ?_, fun j hj => ?_⟩
  · unfold sortWorldK putRowK putRow grow mapBlock
    simp [Sort.ahead]
  · unfold sortWorldK putRowK putRow grow mapBlock
    simp [Sort.ahead]
    rw [Array.getElem?_append_left (by simp; omega), Array.getElem?_modify, if_neg (by omega)]
theorem sortE_block {w : World} {k g m : Nat} {enc : Ent → List Value} {d : Array Ent} {os : Array Obj} {cur : Array Value} {e : TypeId} {fr : Nat × Nat} (hb : w.heap[g]? = some (.cells cur e fr)) : ∃ cs, (sortWorldK enc k w g 0 m d os).heap[g]? = some (.cells cs e fr) := by
  have hg : g < w.heap.size := (Array.getElem?_eq_some_iff.1 hb).1
  refine ⟨putCells id 0 (flatK enc k d) cur, ?_⟩
  unfold sortWorldK putRowK
  rw [heap_grow_old _ _ (by simpa using hg)]
  simp [putRow, mapBlock, Sort.ahead, Array.getElem?_modify, hb, onCells]

theorem hcmp_leaf (blk off size : Nat) (w : World) : CmpLays Tryz.prog 185 #[] leafL 5 cfE blk off size w := by
  intro m os dk _ x y
  exact lcmp_any x y _

/-- The sort, at whatever length. -/
theorem sort_leaf (base : Nat) (au : Option Addr) (cu : Nat) (es : List Ent) (w : World) (hown : w.ownsRow base 237 5 (.slice au es.length cu) es.length (leafVals es)) (hnd : (es.map Ent.name).Nodup) (hl : es.length ≤ 1048576) :
    Calls Tryz.prog 184 #[.slice au es.length cu, .func (.func 185) #[] #[]] w fun e w2 => e = .returned (.tuple #[]) ∧ Below base w w2 ∧
      ∃ L : List Ent, L.Perm es ∧ RisingK L ∧ LvR w2 (.slice au es.length cu) L := by
  rcases hown.2 with ⟨he, hn⟩ | ⟨g, cap, cur, he, hbase, hb, h1, h2, h3, h4⟩
  · have hG : es = [] := List.length_eq_zero_iff.1 (by simpa using hn)
    subst hG
    have hcon := AnyF.slices_SortFunc_none Tryz.sortLeaf au cu (.func (.func 185) #[] #[]) w
    change Calls Tryz.prog 184 _ _ _ at hcon
    simp only [Value.slice.injEq] at he
    refine hcon.mono ?_
    rintro e w2 ⟨rfl, rfl⟩
    exact ⟨rfl, Below.refl _ _, [], List.Perm.refl _, List.Pairwise.nil, au, cu, rfl, Nat.zero_le _, by rw [he.2.2]; exact Nat.zero_le _, fun i h => by simp at h⟩
  · simp only [Value.slice.injEq] at he
    obtain ⟨rfl, _, rfl⟩ := he
    have hlt : g < w.heap.size := (Array.getElem?_eq_some_iff.1 hb).1
    have hcon := AnyQ.slices_SortFunc Tryz.sortLeaf 5 Tryz.isAgg237 Tryz.sizeOf237 leafL (fun _ => rfl) leafL_one cfE swo_cfE 185 #[] g 0 cu es.toArray w
      (enters_of Tryz.func185 (by kernel_rfl) rfl) (hcmp_leaf g 0 _ w) (holds_leaf hown rfl) hlt (by simp; omega)
    change Calls Tryz.prog 184 _ _ _ at hcon
    refine hcon.mono ?_
    rintro e w2 ⟨rfl, d', nq, os, hp, hs, rfl⟩
    have hsz : d'.size = es.length := by rw [hp.1]; simp
    have hH : HoldsK leafL 5 (sortWorldK leafL 5 w g 0 nq d' os) g 0 d' := by
      unfold sortWorldK
      refine holdsK_grow _ _ _ _ _ _ _ ?_ (holdsK_putRowK _ _ _ _ _ es.toArray _ (holdsK_ahead _ _ _ _ _ _ _ (holds_leaf hown rfl)) hp.1)
      unfold putRowK putRow mapBlock
      simp [Sort.ahead]
      exact hlt
    obtain ⟨cs, hcs⟩ := sortE_block (enc := leafL) (k := 5) (m := nq) (d := d') (os := os) hb
    have hperm : d'.toList.Perm es := by
      have e1 : d'.extract 0 es.toArray.size = d' := by rw [← hp.1]; simp
      have e2 : es.toArray.extract 0 es.toArray.size = es.toArray := by simp
      have p3 := hp.2.2
      rw [e1, e2] at p3
      exact p3
    have hrs : RisingK d'.toList := by
      have hnd' : (d'.toList.map Ent.name).Nodup := (hperm.map _).nodup_iff.2 hnd
      unfold RisingK
      rw [List.pairwise_iff_getElem]
      intro i j hi hj hij
      have hszl : d'.toList.length = es.toArray.size := by simpa using hsz
      have h := hs i j (Nat.zero_le _) hij (by omega)
      have gi : d'[i]! = d'.toList[i] := by rw [getElem!_pos d' i (by simpa using hi)]; rfl
      have gj : d'[j]! = d'.toList[j] := by rw [getElem!_pos d' j (by simpa using hj)]; rfl
      rw [gi, gj] at h
      rcases ltK_total d'.toList[i] d'.toList[j] with h' | h' | h'
      · exact h'
      · rw [List.Nodup, List.pairwise_map, List.pairwise_iff_getElem] at hnd'
        exact absurd h'.2 (hnd' i j hi hj hij)
      · rw [← lt_cfE, h] at h'
        cases h'
    refine ⟨rfl, sortE_below hbase hlt, d'.toList, hperm, hrs, some ⟨g, 0, none⟩, cu, by rw [show d'.toList.length = es.length by simpa using hsz], by rw [show d'.toList.length = es.length by simpa using hsz]; exact h1, h2, fun i hi => ?_⟩
    have hi' : i < d'.size := by simpa using hi
    have g0 := (HoldsK.cell hH hi' (c := 0) (by decide)).1
    have g1 := (HoldsK.cell hH hi' (c := 1) (by decide)).1
    have g2 := (HoldsK.cell hH hi' (c := 2) (by decide)).1
    have g3 := (HoldsK.cell hH hi' (c := 3) (by decide)).1
    have g4 := (HoldsK.cell hH hi' (c := 4) (by decide)).1
    have e2 : d'[i]! = d'.toList[i] := by rw [getElem!_pos d' i hi']; rfl
    rw [e2] at g0 g1 g2 g3 g4
    refine ⟨g, 0, rfl, g0, ?_, ?_, ?_, ?_, cs, (0, 0), hcs⟩
    · exact g1
    · exact g2
    · exact g3
    · exact g4

end Go.Proofs.YtocbogeoffeolaaGreatDoor

namespace Go.Proofs.YtocbogeoffeolaaGreatDoor
open Go.RowKit Go.Maps Go.Sort

theorem oper_append_w {P : Program} (w : World) {o : Oper} {a : Act} {K : Act → World → Prop} {Q : Exit → Act → World → Prop} (s x : Operand) (t : TypeId)
    (ho : o.op = .call { callee := .builtin .append, args := #[s, x], argTypes := #[t, t] })
    (base : Nat) (e : TypeId) (i : TypeInfo) (z : Value) (size bytes : Nat) (ht : P.underlying t = some (.slice e)) (hi : P.info? e = some i) (hz : i.zero = some z)
    (hsize : i.size = size) (hby : i.bytes = bytes) (hzs : z.cells.size = size) (hsz : 0 < size)
    (v : Value) (n : Nat) (xs : List Value) (hs : a.eval s = v) (hown : w.ownsRow base e size v n xs)
    (y : Value) (m : Nat) (news : List Value) (hx : a.eval x = y) (hy : RdW w size y m news) (h1 : ∀ u ∈ news, u.oneCell' = true)
    (hbytes : (n + m) * bytes ≤ 140737488355328) (h63 : n + m ≤ maxLen) (hbase : base ≤ w.heap.size)
    (h : ∀ v' w', w'.ownsRow base e size v' (n + m) (xs ++ news) → w.grownBy w' v.ownBlock → (v'.ownBlock = v.ownBlock ∨ (v'.ownBlock = some w.heap.size ∧ Below w.heap.size w w')) → K (a.put o.dst v') w') : Oper.wp P o a w K Q := by
  obtain ⟨v', w', hr, h2, h3, h4⟩ := run_append_w (P := P) w base t o.type e i z size bytes ht hi hz hsize hby hzs hsz v n xs hown y m news hy h1 hbytes h63 hbase
  unfold Oper.wp execOp
  simp only [ho, resolve, invoke, builtin, Sem.run_bind, Sem.run_pure, Result.andThen_ok, List.map_toArray, List.map_cons, List.map_nil, hs, hx, hr]
  exact h v' w' h2 h3 h4

theorem Tryz.infoLeaf : (Tryz.prog.info? 237).map (fun i => (i.zero, i.size, i.bytes)) = some (some (.agg #[.string ⟨#[]⟩, .string ⟨#[]⟩, .string ⟨#[]⟩, .int .i64 0, .int .i64 0]), 5, 64) := by kernel_rfl

theorem rdw_leaf {w : World} {x y z u v : Value} {t : TypeId} {g : Nat} (hg : g = w.heap.size) : RdW (w.alloc (.cells #[x, y, z, u, v] t)) 5 (.slice (some ⟨g, 0, none⟩) 1 1) 1 [x, y, z, u, v] := by
  subst hg
  refine ⟨some ⟨w.heap.size, 0, none⟩, 1, rfl, Nat.le_refl _, by unfold maxLen; omega, rfl, fun j u hj => ⟨w.heap.size, 0, rfl, ?_⟩⟩
  rw [World.cell?_alloc_at _ _ _ _ rfl]
  match j, hj with
  | 0, hj => simpa using hj
  | 1, hj => simpa using hj
  | 2, hj => simpa using hj
  | 3, hj => simpa using hj
  | 4, hj => simpa using hj
  | j + 5, hj => simp at hj

theorem cell_grown {w w' : World} {row : Option Nat} {k o : Nat} {u : Value} (hg : w.grownBy w' row) (h : w.cell? ⟨k, o, none⟩ = some u) (hne : some k ≠ row) : w'.cell? ⟨k, o, none⟩ = some u := by
  have hb := hg.block k (cell_lt h) hne
  simp only [World.cell?] at h ⊢
  rw [hb]
  exact h
theorem SayR.below' {w w' : World} {B r : Nat} {es rst : List Ent} (h : SayR w B r es rst) (hb : Below w.heap.size w w') : SayR w' B r es rst := RangeL.kept (row := none) h ⟨hb.os, hb.tape, hb.output, hb.size, fun k hk _ => hb.block k hk⟩ (by simp) (by simp)

set_option maxHeartbeats 4000000 in
set_option maxRecDepth 100000 in
theorem leaves_any (B : Nat) (es : List Ent) (w : World) (hs : SayM w B es) (hl : es.length ≤ 1048576) (hsh : ∀ e ∈ es, e.text.length ≤ 1099511627776) :
    Calls Tryz.prog 133 #[.map (some B)] w fun en w' => ∃ v L, en = .returned v ∧ L.Perm (livingL es) ∧ RisingK L ∧ LvR w' v L ∧ Below w.heap.size w w' := by
  obtain ⟨i0, hi, hz0, hz1, hz2⟩ := info_parts Tryz.infoLeaf
  have hnd := hs.nodup
  have HS : Hid (SayM w B es) := hs
  have HND : Hid ((es.map Ent.name).Nodup) := hnd
  have HSH : Hid (∀ e ∈ es, e.text.length ≤ 1099511627776) := hsh
  have hBl := MapL.lt hs
  clear hs hnd hsh
  go_enter Tryz.func133, Tryz.ntmps133
  go_wp2_with (first | (at_range; refine wpList_rangeS _ rfl _ rfl rfl HS.out ?_; intro w1 hrg0 hg0 hs0))
  go_frame
  go_loopw [3] (fun g wr => ∃ (vis rst : List Ent), (vis ++ rst).Perm es ∧ SayR wr B w.heap.size es rst ∧ wr.ownsRow (w.heap.size + 1) 237 5 g (livingL vis).length (leafVals (livingL vis)) ∧ Below w.heap.size w wr ∧ w.heap.size + 1 ≤ wr.heap.size) (fun _ wr => wr.rangeLeft B w.heap.size)
  case atStart => exact ⟨[], es, List.Perm.refl _, hrg0, World.ownsRow_nil _ _ _ _, (Below.refl _ _).grown hg0 (Nat.le_refl _) (fun k hk => by cases hk), by omega⟩
  case round =>
    obtain ⟨vis, rst, hperm, hr, hown, hb, hz⟩ := hrel
    have HP : Hid ((vis ++ rst).Perm es) := hperm
    have HR : Hid (SayR wr B w.heap.size es rst) := hr
    obtain ⟨ag, cg, rfl, hcg⟩ := owns_slice_wide hown
    have HO : Hid (wr.ownsRow (w.heap.size + 1) 237 5 (.slice ag (livingL vis).length cg) (livingL vis).length (leafVals (livingL vis))) := hown
    have HB : Hid (Below w.heap.size w wr) := hb
    have hvl : (livingL vis).length ≤ es.length := by
      have h1 := living_le vis
      have h2 := hperm.length_eq
      rw [List.length_append] at h2
      omega
    clear hperm hr hb hown
    go_wp2_with (first | (at_next; refine wpList_nextS _ rfl _ rfl w.heap.size rst rfl HR.out ?_ ?_))
    · intro h0
      have hE : vis.Perm es := by
        have := HP.out
        rw [h0, List.append_nil] at this
        exact this
      have hso := sort_leaf (w.heap.size + 1) ag cg (livingL vis) wr HO.out (by
        have h1 : (vis.map Ent.name).Nodup := (hE.map _).nodup_iff.2 HND.out
        exact h1.sublist (List.filter_sublist.map _)) (by omega)
      have HE : Hid ((livingL vis).Perm (livingL es)) := living_perm hE
      clear h0 hE
      go_wp2_with fail
      refine hso.mono ?_
      rintro e2 w2 ⟨rfl, hb2, L, hL1, hL2, hL3⟩
      have HB2 : Hid (Below w.heap.size w w2) := HB.out.trans (hb2.mono (by omega))
      have HL : Hid (L.Perm (livingL es)) := hL1.trans HE.out
      have HL2 : Hid (RisingK L) := hL2
      have HL3 : Hid (LvR w2 (.slice ag (livingL vis).length cg) L) := hL3
      clear hso hb2 hL1 hL2 hL3
      go_wp2
      go_ret
      exact ⟨_, L, rfl, HL.out, HL2.out, HL3.out, HB2.out⟩
    · intro e rst' w2 hp1 hr1 hlt1 hg1 hs1 hen
      have hR1 := RangeL.lt hr1
      have hB1 := MapL.lt (RangeL.owns hr1)
      have HB1 : Hid (Below w.heap.size w w2) := below_next HB.out hg1 (Nat.le_refl _)
      have HR1 : Hid (SayR w2 B w.heap.size es rst') := hr1
      have HL1 : Hid (w2.rangeLeft B w.heap.size < wr.rangeLeft B w.heap.size) := hlt1
      have HP1 : Hid (rst.Perm (e :: rst')) := hp1
      have HO1 : Hid (w2.ownsRow (w.heap.size + 1) 237 5 (.slice ag (livingL vis).length cg) (livingL vis).length (leafVals (livingL vis))) := owns_stay_wide HO.out (fun k hk => hg1.block k (HO.out.lt k hk).2 (by have := (HO.out.lt k hk).1; intro e; cases e; omega))
      have hls := living_snoc vis e
      have htx : e.text.length ≤ 1099511627776 := HSH.out e (HP.out.mem_iff.1 (List.mem_append_right _ (hp1.mem_iff.2 (List.mem_cons_self ..))))
      have hzz2 : w.heap.size + 1 ≤ w2.heap.size := by omega
      clear hp1 hr1 hlt1 hg1 hs1
      obtain ⟨nm, gn, tx, wt, tg⟩ := e
      cases gn with
      | true =>
        have HLS : Hid (livingL (vis ++ [⟨nm, true, tx, wt, tg⟩]) = livingL vis) := by show _ = _; rw [hls]; simp
        clear hls
        go_wp2
        go_roundw
        case rel =>
          exact ⟨vis ++ [⟨nm, true, tx, wt, tg⟩], rst', perm_step HP.out HP1.out, HR1.out.alloc _, by rw [HLS.out]; exact HO1.out.alloc _, HB1.out.alloc (by omega) _, by simp; omega⟩
        case measure =>
          rw [left_alloc hB1 hR1]
          exact HL1.out
      | false =>
        have HLS : Hid (livingL (vis ++ [⟨nm, false, tx, wt, tg⟩]) = livingL vis ++ [⟨nm, false, tx, wt, tg⟩]) := by show _ = _; rw [hls]; simp
        clear hls
        go_wp2_with fail
        rw [show inN ⟨nm, false, tx, wt, tg⟩ = nm from rfl]
        obtain ⟨wa, hwa⟩ : ∃ wa, wa = w2.alloc (.cells #[.bool false, .string ⟨nm.toArray⟩, .string ⟨tx.toArray⟩, .int .i64 wt, .int .i64 tg] 111) := ⟨_, rfl⟩
        rw [← hwa]
        obtain ⟨k, hk⟩ : ∃ k, k = w2.heap.size := ⟨_, rfl⟩
        rw [← hk]
        have hba : Below w2.heap.size w2 wa := by rw [hwa]; exact (Below.refl _ _).alloc (Nat.le_refl _) _
        have hca : wa.heap[k]? = some (.cells #[.bool false, .string ⟨nm.toArray⟩, .string ⟨tx.toArray⟩, .int .i64 wt, .int .i64 tg] 111 (0, 0)) := by rw [hwa, hk]; exact heap_alloc_new w2 _
        have hS : (fun w' : World => w'.cell? ⟨k, 1, none⟩ = some (.string ⟨nm.toArray⟩) ∧ w'.cell? ⟨k, 2, none⟩ = some (.string ⟨tx.toArray⟩) ∧ w'.cell? ⟨k, 3, none⟩ = some (.int .i64 wt) ∧ w'.cell? ⟨k, 4, none⟩ = some (.int .i64 tg)) wa.drew := ⟨by show wa.cell? _ = _; rw [cell_of_heap hca]; rfl, by show wa.cell? _ = _; rw [cell_of_heap hca]; rfl, by show wa.cell? _ = _; rw [cell_of_heap hca]; rfl, by show wa.cell? _ = _; rw [cell_of_heap hca]; rfl⟩
        have hfo := pfold_any ⟨tx.toArray⟩ wa.drew (by show tx.toArray.size ≤ _; simpa using htx)
        change Calls _ _ _ _ (fun e w' => e = .returned (.string ⟨(foldL tx).toArray⟩) ∧ Below wa.heap.size wa.drew w') at hfo
        have HKk : Hid (k = w2.heap.size) := hk
        clear hwa hca hk
        refine wp_region_held (S := fun w' => w'.cell? ⟨k, 1, none⟩ = some (.string ⟨nm.toArray⟩) ∧ w'.cell? ⟨k, 2, none⟩ = some (.string ⟨tx.toArray⟩) ∧ w'.cell? ⟨k, 3, none⟩ = some (.int .i64 wt) ∧ w'.cell? ⟨k, 4, none⟩ = some (.int .i64 tg)) (by kernel_rfl) ?_
        refine wpAnyH_take (i := 0) (v := ?_) rfl (by kernel_rfl) (by kernel_rfl) (by kernel_rfl) (fun _ _ _ h => h) (Or.inl ⟨by rfl, ?_⟩) hS ?_
        rotate_left
        · rintro w' ⟨s0, s1, s2, s3⟩; go_simp; first | done | with_reducible rfl
        refine wpAnyH_take (i := 1) (v := ?_) rfl (by kernel_rfl) (by kernel_rfl) (by kernel_rfl) (fun _ _ _ h => h) (Or.inl ⟨by rfl, ?_⟩) hS ?_
        rotate_left
        · rintro w' ⟨s0, s1, s2, s3⟩; go_simp; first | done | with_reducible rfl
        refine wpAnyH_take (i := 2) (v := ?_) rfl (by kernel_rfl) (by kernel_rfl) (by kernel_rfl) (fun _ _ _ h => h) (Or.inl ⟨by rfl, ?_⟩) hS ?_
        rotate_left
        · rintro w' ⟨s0, s1, s2, s3⟩; go_simp; first | done | with_reducible rfl
        refine wpAnyH_take (i := 3) (v := ?_) rfl (by kernel_rfl) (by kernel_rfl) (by kernel_rfl) (fun _ _ _ h => h) (Or.inl ⟨by rfl, ?_⟩) hS ?_
        rotate_left
        · rintro w' ⟨s0, s1, s2, s3⟩; go_simp; first | done | with_reducible rfl
        refine wpAnyH_take (i := 5) (v := ?_) rfl (by kernel_rfl) (by kernel_rfl) (by kernel_rfl) (fun _ _ _ h => h) (Or.inl ⟨by rfl, ?_⟩) hS ?_
        rotate_left
        · rintro w' ⟨s0, s1, s2, s3⟩; go_simp; first | done | with_reducible rfl
        refine wpAnyH_take (i := 6) (v := ?_) rfl (by kernel_rfl) (by kernel_rfl) (by kernel_rfl) (fun _ _ _ h => h) (Or.inl ⟨by rfl, ?_⟩) hS ?_
        rotate_left
        · rintro w' ⟨s0, s1, s2, s3⟩; go_simp; first | done | with_reducible rfl
        refine wpAnyH_all (rs := [4]) (by kernel_rfl) (by simp) ?_
        intro i hi
        simp only [List.mem_singleton] at hi
        subst hi
        refine wpOp_step (by rfl) fun K' hK' => ?_
        rw [if_pos (by rfl)]
        unfold Oper.wp
        go_simp
        refine hfo.mono ?_
        rintro e w3 ⟨rfl, hb3⟩
        have hS3 : (fun w' : World => w'.cell? ⟨k, 1, none⟩ = some (.string ⟨nm.toArray⟩) ∧ w'.cell? ⟨k, 2, none⟩ = some (.string ⟨tx.toArray⟩) ∧ w'.cell? ⟨k, 3, none⟩ = some (.int .i64 wt) ∧ w'.cell? ⟨k, 4, none⟩ = some (.int .i64 tg)) w3 := ⟨cell_later hb3 hS.1, cell_later hb3 hS.2.1, cell_later hb3 hS.2.2.1, cell_later hb3 hS.2.2.2⟩
        refine hK' _ _ ⟨hS3, ?_⟩
        clear hK'
        refine wpAnyH_take (i := 7) (v := ?_) rfl (by kernel_rfl) (by kernel_rfl) (by kernel_rfl) (fun _ _ _ h => h) (Or.inl ⟨by rfl, ?_⟩) hS3 ?_
        rotate_left
        · rintro w' ⟨s0, s1, s2, s3⟩; go_simp; first | done | with_reducible rfl
        refine wpAnyH_all (rs := [8]) (by kernel_rfl) (by simp) ?_
        intro i hi
        simp only [List.mem_singleton] at hi
        subst hi
        refine wpOp_step (by rfl) fun K' hK' => ?_
        rw [if_pos (by rfl)]
        unfold Oper.wp
        go_simp
        obtain ⟨w4, hw4⟩ : ∃ w4, w4 = w3.alloc (.cells #[.string ⟨(foldL tx).toArray⟩, .string ⟨nm.toArray⟩, .string ⟨tx.toArray⟩, .int .i64 wt, .int .i64 tg] 237) := ⟨_, rfl⟩
        rw [← hw4]
        have hb4 : Below w3.heap.size w3 w4 := by rw [hw4]; exact (Below.refl _ _).alloc (Nat.le_refl _) _
        have hrd : RdW w4 5 (.slice (some ⟨w3.heap.size, 0, none⟩) 1 1) 1 (leafL ⟨nm, false, tx, wt, tg⟩) := by rw [hw4]; exact rdw_leaf rfl
        have hS4 : (fun w' : World => w'.cell? ⟨k, 1, none⟩ = some (.string ⟨nm.toArray⟩) ∧ w'.cell? ⟨k, 2, none⟩ = some (.string ⟨tx.toArray⟩) ∧ w'.cell? ⟨k, 3, none⟩ = some (.int .i64 wt) ∧ w'.cell? ⟨k, 4, none⟩ = some (.int .i64 tg)) w4 := ⟨cell_later hb4 hS3.1, cell_later hb4 hS3.2.1, cell_later hb4 hS3.2.2.1, cell_later hb4 hS3.2.2.2⟩
        refine hK' _ _ ⟨hS4, ?_⟩
        clear hK'
        have hz3 : wa.heap.size ≤ w3.heap.size := hb3.size
        have hz4 := hb4.size
        have hza := hba.size
        have hB24 : Below w2.heap.size w2 w4 := by
          have h1 : Below wa.heap.size wa w3 := ⟨hb3.os, hb3.tape, hb3.output, hb3.size, hb3.block⟩
          exact (hba.trans (h1.mono hza)).trans (hb4.mono (by omega))
        have hO4 : w4.ownsRow (w.heap.size + 1) 237 5 (.slice ag (livingL vis).length cg) (livingL vis).length (leafVals (livingL vis)) := owns_stay_wide HO1.out (fun j hj => hB24.block j (HO1.out.lt j hj).2)
        have hBl2 : Below w.heap.size w w4 := HB1.out.trans (hB24.mono (by omega))
        clear hw4 hb4 hb3
        refine wpAnyH_all (rs := [9]) (by kernel_rfl) (by simp) ?_
        intro i hi9
        simp only [List.mem_singleton] at hi9
        subst hi9
        refine wpOp_step (by rfl) fun K' hK' => ?_
        rw [if_pos (by rfl)]
        refine oper_append_w _ _ _ 190 rfl (w.heap.size + 1) 237 i0 _ 5 64 Tryz.underlying190 hi hz0 hz1 hz2 rfl (by decide) _ _ _ rfl hO4 _ 1 _ rfl hrd (leafL_one _) (by omega) (by unfold maxLen; omega) (by omega) ?_
        intro v5 w5 hO5 hg5 _
        have hkn : some k ≠ (Value.slice ag (livingL vis).length cg).ownBlock := fun e => by have := (HO1.out.lt k e.symm).2; have := HKk.out; omega
        have hS5 : (fun w' : World => w'.cell? ⟨k, 1, none⟩ = some (.string ⟨nm.toArray⟩) ∧ w'.cell? ⟨k, 2, none⟩ = some (.string ⟨tx.toArray⟩) ∧ w'.cell? ⟨k, 3, none⟩ = some (.int .i64 wt) ∧ w'.cell? ⟨k, 4, none⟩ = some (.int .i64 tg)) w5 := ⟨cell_grown hg5 hS4.1 hkn, cell_grown hg5 hS4.2.1 hkn, cell_grown hg5 hS4.2.2.1 hkn, cell_grown hg5 hS4.2.2.2 hkn⟩
        refine hK' _ _ ⟨hS5, ?_⟩
        clear hK'
        refine wpAnyH_take (i := 10) (v := ?_) rfl (by kernel_rfl) (by kernel_rfl) (by kernel_rfl) (fun _ _ _ h => h) (Or.inl ⟨by rfl, ?_⟩) hS5 ?_
        rotate_left
        · rintro w' ⟨s0, s1, s2, s3⟩; go_simp; first | done | with_reducible rfl
        refine wpAnyH_done (by kernel_rfl) ?_ _
        have hz5 := hg5.size
        have HB5 : Hid (Below w.heap.size w w5) := hBl2.grown hg5 (by omega) (fun b hb => by have := (HO1.out.lt b hb).1; omega)
        have hR4 : SayR w4 B w.heap.size es rst' := HR1.out.below' hB24
        have HR5 : Hid (SayR w5 B w.heap.size es rst') := RangeL.kept hR4 hg5 (fun e => by have := (HO1.out.lt B e.symm).1; omega) (fun e => by have := (HO1.out.lt _ e.symm).1; omega)
        have HO5 : Hid (w5.ownsRow (w.heap.size + 1) 237 5 v5 (livingL (vis ++ [⟨nm, false, tx, wt, tg⟩])).length (leafVals (livingL (vis ++ [⟨nm, false, tx, wt, tg⟩])))) := by
          show w5.ownsRow _ _ _ _ _ _
          rw [HLS.out, leafVals_snoc, List.length_append]
          exact hO5
        have HL5 : Hid (w5.rangeLeft B w.heap.size < wr.rangeLeft B w.heap.size) := by
          show _ < _
          rw [RangeL.left_stay (hg5.block B (by omega) (fun e => by have := (HO1.out.lt B e.symm).1; omega)) (hg5.block w.heap.size (by omega) (fun e => by have := (HO1.out.lt _ e.symm).1; omega)), RangeL.left_stay (hB24.block B hB1) (hB24.block _ hR1)]
          exact HL1.out
        clear hO5 hg5 hBl2 hO4 hR4 hrd hS hS3 hS4 hS5 hfo hba hB24
        go_wp2
        go_roundw
        case rel =>
          exact ⟨_, _, _, _, _, _, _, _, _, _, _, _, _, _, _, _, _, _, _, ⟨vis ++ [⟨nm, false, tx, wt, tg⟩], rst', perm_step HP.out HP1.out, HR5.out, HO5.out, HB5.out, by omega⟩, rfl⟩
        case measure => exact HL5.out

end Go.Proofs.YtocbogeoffeolaaGreatDoor

namespace Go.Proofs.YtocbogeoffeolaaGreatDoor
open Go.RowKit Go.Maps

theorem pack_parts {es L : List Ent} (hnd : (es.map Ent.name).Nodup) (hL : L.Perm (livingL es)) (hr : RisingK L) : packC es = goneB es ++ (pieceL [] ++ wrBody 26 0 L) := by
  have h1 := wr_body 26 [] L hr (fun e _ => List.nil_prefix)
  have hndl : (L.map Ent.name).Nodup := by
    have : ((livingL es).map Ent.name).Nodup := hnd.sublist (List.filter_sublist.map _)
    exact (hL.map _).nodup_iff.2 this
  have h2 : sortN L = (sortN es).filter fun e => !e.gone := by
    rw [sortN_filter, sortN_congr hndl hL]
    rfl
  rw [List.length_nil] at h1
  rw [h1, h2]
  unfold packC goneB gonesL
  rw [List.length_map, List.flatMap_map]
  simp

set_option maxHeartbeats 2000000 in
set_option maxRecDepth 100000 in
theorem pack_any (B : Nat) (es : List Ent) (w : World) (hs : SayM w B es) (hok : OkSeg es) :
    Calls Tryz.prog 91 #[.map (some B)] w fun en w' => en = .returned (.string ⟨(packC es).toArray⟩) ∧ Below w.heap.size w w' := by
  have hlen := packC_len hok
  have hel : es.length ≤ 130 := by
    have h1 := hok.gone
    have h2 := hok.there
    have h3 := gone_count es
    have h4 : (livingL es).length ≤ 30 := h2
    omega
  have hnd := hok.nodup
  have HS : Hid (SayM w B es) := hs
  have HOK : Hid (OkSeg es) := hok
  have hG := appendGone_any B es w hs (by omega) (by have := hok.gone; unfold goneN; omega) (fun e he hg => by
    rcases hok.each e he with h | h
    · rw [h.1] at hg; cases hg
    · have := (name_len h.2).2; omega)
  clear hs hok
  go_enter Tryz.func91, Tryz.ntmps91
  go_wp2_with fail
  refine hG.mono ?_
  rintro e1 w1 ⟨v1, rfl, hO1, hb1⟩
  obtain ⟨a1, c1, rfl⟩ := hO1.form
  have HO1 : Hid (OutB w1 w.heap.size (.slice a1 (goneB es).length c1) (goneB es)) := hO1
  have HB1 : Hid (Below w.heap.size w w1) := hb1
  have hz1 := hb1.size
  have hL := leaves_any B es w1 (MapL.below HS.out hb1) (by omega) (fun e he => by
    rcases HOK.out.each e he with h | h
    · have := query_len h.2.2.1; omega
    · rw [h.1]; simp)
  clear hG hO1 hb1
  go_wp2_with fail
  refine hL.mono ?_
  rintro e2 w2 ⟨v2, L, rfl, hp2, hr2, hv2, hb2⟩
  have HB2 : Hid (Below w.heap.size w w2) := HB1.out.trans (hb2.mono hz1)
  have HO2 : Hid (OutB w2 w.heap.size (.slice a1 (goneB es).length c1) (goneB es)) := HO1.out.below hb2
  have hz2 := hb2.size
  have HPP : Hid (packC es = goneB es ++ (pieceL [] ++ wrBody 26 0 L)) := pack_parts hnd hp2 hr2
  have hN := wrNode 26 w.heap.size _ (goneB es) ⟨#[]⟩ [] _ L w2 HO2.out hv2 (by omega) (fun e he => ⟨by
      have hm := hp2.mem_iff.1 he
      unfold livingL at hm
      rw [List.mem_filter] at hm
      rcases HOK.out.each e hm.1 with h | h
      · exact h
      · have := hm.2
        rw [h.1] at this
        simp at this, List.nil_prefix⟩) hr2 (by
      have h1 := hp2.length_eq
      have h2 := living_le es
      omega) (by simp) (by simp) (by
      have h1 := congrArg List.length HPP.out
      rw [List.length_append] at h1
      change (goneB es).length + (pieceL [] ++ wrBody 26 0 L).length ≤ _
      omega) (Nat.zero_le _)
  change Calls _ _ #[_, .string ⟨#[]⟩, .int .i64 0, v2] _ (AppO w.heap.size w2 _ (goneB es) (pieceL [] ++ wrBody 26 0 L)) at hN
  clear hL hb2 hv2 HO1 HB1 hp2 hr2
  go_wp2_with fail
  refine hN.mono ?_
  rintro e3 w3 ⟨v3, rfl, hO3, hW3⟩
  have HB3 : Hid (Below w.heap.size w w3) := hW3.low HB2.out HO2.out (Nat.le_refl _)
  rw [← HPP.out] at hO3
  have hconv := conv_bytes hO3 Tryz.underlying60 Tryz.underlying5 Tryz.underlying9
  clear hN hO3 hW3 HO2 HB2
  go_wp2
  go_ret
  exact ⟨rfl, HB3.out⟩

end Go.Proofs.YtocbogeoffeolaaGreatDoor

namespace Go.Proofs.YtocbogeoffeolaaGreatDoor
open Go.RowKit Go.Maps

theorem oper_append_full {P : Program} (w : World) {o : Oper} {a : Act} {K : Act → World → Prop} {Q : Exit → Act → World → Prop} (s x : Operand) (t : TypeId)
    (ho : o.op = .call { callee := .builtin .append, args := #[s, x], argTypes := #[t, t] })
    (base : Nat) (e : TypeId) (i : TypeInfo) (z : Value) (bytes : Nat) (ht : P.underlying t = some (.slice e)) (hi : P.info? e = some i) (hz : i.zero = some z)
    (hsize : i.size = 1) (hby : i.bytes = bytes) (hzs : z.cells.size = 1)
    (v : Value) (n : Nat) (xs : List Value) (hs : a.eval s = v) (hown : w.ownsRow base e 1 v n xs)
    (y : Value) (news : List Value) (hx : a.eval x = y) (hy : Rd w y news) (h1 : ∀ u ∈ news, u.oneCell' = true)
    (hbytes : (n + news.length) * bytes ≤ 140737488355328) (h63 : n + news.length ≤ maxLen) (hbase : base ≤ w.heap.size)
    (h : ∀ v' w', w'.ownsRow base e 1 v' (n + news.length) (xs ++ news) → w.grownBy w' v.ownBlock → (v'.ownBlock = v.ownBlock ∨ v'.ownBlock = some w.heap.size) → K (a.put o.dst v') w') : Oper.wp P o a w K Q := by
  obtain ⟨v', w', hr, h2, h3, h4⟩ := run_append_full (P := P) w base t o.type e i z bytes ht hi hz hsize hby hzs v n xs hown y news hy h1 hbytes h63 hbase
  unfold Oper.wp execOp
  simp only [ho, resolve, invoke, builtin, Sem.run_bind, Sem.run_pure, Result.andThen_ok, List.map_toArray, List.map_cons, List.map_nil, hs, hx, hr]
  exact h v' w' h2 h3 h4

/-- What packUnlessEmpty hands back. -/
def packsL (es : List Ent) : List Wd := if 0 < es.length then [packC es] else []

set_option maxHeartbeats 1000000 in
set_option maxRecDepth 100000 in
theorem pue_any (B : Nat) (es : List Ent) (w : World) (hs : SayM w B es) (hok : 0 < es.length → OkSeg es) :
    Calls Tryz.prog 63 #[.map (some B)] w fun en w' => ∃ v, en = .returned v ∧ Rd w' v (strVals (packsL es)) ∧ Below w.heap.size w w' := by
  have hlen := fun (ty : TypeId) => MapL.len hs Tryz.underlying85 ty
  rw [List.length_map] at hlen
  by_cases h0 : 0 < es.length
  · have HE : Hid (packsL es = [packC es]) := by show packsL es = _; unfold packsL; rw [if_pos h0]
    have hp := pack_any B es w hs (hok h0)
    have h0i : ((es.length : Int) == 0) = false := beq_eq_false_iff_ne.2 (by omega)
    clear hs hok h0
    go_enter Tryz.func63, Tryz.ntmps63
    go_wp2_with fail
    refine hp.mono ?_
    rintro e w1 ⟨rfl, hb⟩
    have HB : Hid (Below w.heap.size w w1) := hb
    have hz := hb.size
    clear hp hb
    go_wp2
    go_ret
    refine ⟨_, rfl, ?_, HB.out.alloc hz _⟩
    rw [HE.out]
    exact Rd.one cell_new
  · have HE : Hid (packsL es = []) := by show packsL es = _; unfold packsL; rw [if_neg h0]
    have h0i : es.length = 0 := by omega
    rw [h0i] at hlen
    clear hs hok h0 h0i
    go_enter Tryz.func63, Tryz.ntmps63
    go_wp2
    go_ret
    refine ⟨_, rfl, ?_, Below.refl _ _⟩
    rw [HE.out]
    exact Rd.empty' rfl (by unfold maxLen; omega)

/-- How unpackStrange ends. -/
def StrO (w : World) (X : Option (List Ent)) (e : Ending) (w' : World) : Prop := match X with
  | some l => ∃ B, e = .returned (.tuple #[.map (some B), .bool true]) ∧ w.heap.size ≤ B ∧ SayM w' B l
  | none => e = .returned (.tuple #[.map none, .bool false])

set_option maxHeartbeats 1000000 in
set_option maxRecDepth 100000 in
theorem strange_any (S : ByteArray) (w : World) (hS : S.size ≤ maxLen) :
    Calls Tryz.prog 57 #[.string S] w fun e w' => Below w.heap.size w w' ∧ StrO w (unpackL S.data.toList) e w' := by
  unfold maxLen at hS
  have hsz : S.data.toList.length = S.size := by simp
  by_cases h4 : 4000 < S.size
  · have HU : Hid (unpackL S.data.toList = none) := by show unpackL _ = _; rw [unpack_eq, if_pos (by omega)]
    have h4i : (4000 : Int) < (S.size : Int) := by omega
    clear h4 hsz
    go_enter Tryz.func57, Tryz.ntmps57
    go_wp2
    go_ret2
    refine ⟨Below.refl _ _, ?_⟩
    rw [HU.out]
    exact rfl
  · have hU : unpackL S.data.toList = (rdSeg S.data.toList).map fun x => x.1 ++ x.2 := by rw [unpack_eq, if_neg (by omega)]
    have h4i : ¬ (4000 : Int) < (S.size : Int) := by omega
    have hu := unpack_any S w (by omega)
    have HU : Hid (unpackL S.data.toList = (rdSeg S.data.toList).map fun x => x.1 ++ x.2) := hU
    clear h4 hsz hU
    go_enter Tryz.func57, Tryz.ntmps57
    go_wp2_with fail
    refine hu.mono ?_
    rintro e w1 ⟨hb, ho⟩
    have HB : Hid (Below w.heap.size w w1) := hb
    clear hu hb h4i
    cases hr : rdSeg S.data.toList with
    | none =>
      rw [hr] at ho
      unfold UnpO at ho
      subst ho
      have HU2 : Hid (unpackL S.data.toList = none) := by show unpackL _ = _; rw [HU.out, hr]; rfl
      clear hr
      go_wp2
      go_ret2
      refine ⟨HB.out, ?_⟩
      rw [HU2.out]
      exact rfl
    | some x =>
      rw [hr] at ho
      unfold UnpO at ho
      obtain ⟨B, rfl, hB, hm⟩ := ho
      have HU2 : Hid (unpackL S.data.toList = some (x.1 ++ x.2)) := by show unpackL _ = _; rw [HU.out, hr]; rfl
      have HM : Hid (SayM w1 B (x.1 ++ x.2)) := hm
      clear hr hm
      go_wp2
      go_ret2
      refine ⟨HB.out, ?_⟩
      rw [HU2.out]
      exact ⟨B, rfl, hB, HM.out⟩

end Go.Proofs.YtocbogeoffeolaaGreatDoor

namespace Go.Proofs.YtocbogeoffeolaaGreatDoor
open Go.RowKit Go.Maps

/-- The segments' row has turned, and the engine's field with it. -/
theorem PEn.segs {w w2 w3 : World} {F : Nat → Prop} {b : Nat} {buf : List Ent} {ss ss' : List (List Ent)} {Bb : Nat} {vS vM vK v' : Value} (hE : PEn w F b buf ss Bb vS vM vK) (hF : ∀ k, F k → k < w.heap.size) (hb : Below w.heap.size w w2)
    (hg : FrameF (fun k => vS.ownBlock = some k) w2 w3) (hrow : w3.ownsRow 0 9 1 v' ss'.length (strVals (ss'.map packC))) (hv : ∀ k, v'.ownBlock = some k → vS.ownBlock = some k ∨ w2.heap.size ≤ k) :
    (w3.setCell ⟨b, 1, none⟩ v').heap[b]? = some (.cells #[.map (some Bb), v', vM, vK] 90 (0, 0)) ∧ SayM (w3.setCell ⟨b, 1, none⟩ v') Bb buf ∧ (w3.setCell ⟨b, 1, none⟩ v').ownsRow 0 9 1 v' ss'.length (strVals (ss'.map packC)) ∧
      FrameF F w (w3.setCell ⟨b, 1, none⟩ v') ∧ (∀ k, v'.ownBlock = some k → (F k ∨ w.heap.size ≤ k) ∧ k < w3.heap.size) := by
  have hb2 : w2.heap[b]? = some (.cells #[.map (some Bb), vS, vM, vK] 90 (0, 0)) := by rw [hb.block b (hF b hE.fb)]; exact hE.blk
  have hbl : b < w2.heap.size := heap_lt hb2
  have hBl : Bb < w2.heap.size := Nat.lt_of_lt_of_le (hF Bb hE.fB) hb.size
  have hrow2 : w2.ownsRow 0 9 1 vS ss.length (strVals (ss.map packC)) := owns_stay hE.row (fun k hk => hb.block k (hF k (hE.frow k hk)))
  have hsay2 : SayM w2 Bb buf := MapL.stay hE.say (hb.block Bb (hF Bb hE.fB))
  have hb3 : w3.heap[b]? = some (.cells #[.map (some Bb), vS, vM, vK] 90 (0, 0)) := by rw [hg.block b hbl (blk_ne hb2 hrow2 (by decide))]; exact hb2
  have hsay3 : SayM w3 Bb buf := MapL.stay hsay2 (hg.block Bb hBl (fun e => own_map_ne hrow2 hsay2 e.symm))
  have hne : ∀ k, k ≠ b → (w3.setCell ⟨b, 1, none⟩ v').heap[k]? = w3.heap[k]? := fun k hk => Below.heap_setCell _ _ _ _ (fun e => hk e)
  refine ⟨by rw [heap_set hb3]; rfl, MapL.stay hsay3 (hne Bb (fun e => MapL.cells_ne hsay3 hb3 e)), owns_stay hrow (fun k hk => hne k (fun e => blk_ne hb3 hrow (by decide) (by rw [hk, e]))), ?_, fun k hk => ⟨?_, (hrow.lt k hk).2⟩⟩
  · exact ((FrameF.of_below hb).trans hg (fun i _ hi => hE.frow i hi)).then (frame_set hE.fb)
  · rcases hv k hk with h | h
    · exact Or.inl (hE.frow k h)
    · exact Or.inr (Nat.le_trans hb.size h)
/-- The segments behind a flush. -/
def segsTo (ss : List (List Ent)) (l : List Ent) : List (List Ent) := if 0 < l.length then ss ++ [l] else ss
theorem segsTo_len (ss : List (List Ent)) (l : List Ent) : (segsTo ss l).length = ss.length + (strVals (packsL l)).length := by
  unfold segsTo packsL
  split <;> simp [strVals]
theorem segsTo_vals (ss : List (List Ent)) (l : List Ent) : strVals ((segsTo ss l).map packC) = strVals (ss.map packC) ++ strVals (packsL l) := by
  unfold segsTo packsL
  split <;> simp [strVals]
theorem packs_len (es : List Ent) : (packsL es).length ≤ 1 := by unfold packsL; split <;> simp
theorem FrameF.of_grown' {w w' : World} {o : Option Nat} (h : w.grownBy w' o) : FrameF (fun k => o = some k) w w' := ⟨h.os, h.tape, h.output, h.size, fun k hk hn => h.block k hk (fun e => hn e.symm)⟩

theorem pflush_end {w w4 : World} {F : Nat → Prop} {b : Nat} {ss' : List (List Ent)} {Bb : Nat} {vM vK v' : Value} (fb : F b) (p1 : w4.heap[b]? = some (.cells #[.map (some Bb), v', vM, vK] 90 (0, 0)))
    (p3 : w4.ownsRow 0 9 1 v' ss'.length (strVals (ss'.map packC))) (p4 : FrameF F w w4) (p5 : ∀ k, v'.ownBlock = some k → (F k ∨ w.heap.size ≤ k) ∧ k < w4.heap.size) (hi : Inv [] ss') :
    ∃ F' : Nat → Prop, PE2 ((w4.alloc (.map #[] 0)).setCell ⟨b, 0, none⟩ (.map (some w4.heap.size))) F' b [] ss' ∧ (∀ k, F' k → F k ∨ w.heap.size ≤ k) ∧ FrameF F w ((w4.alloc (.map #[] 0)).setCell ⟨b, 0, none⟩ (.map (some w4.heap.size))) := by
  have hb5 : Below w4.heap.size w4 (w4.alloc (.map #[] 0)) := (Below.refl _ _).alloc (Nat.le_refl _) _
  have hm5 : SayM (w4.alloc (.map #[] 0)) w4.heap.size [] := MapL.made w4
  have hz5 : (w4.alloc (.map #[] 0)).heap.size = w4.heap.size + 1 := by simp
  generalize (w4.alloc (.map #[] 0)) = w5 at *
  have hbl := heap_lt p1
  have hk5 : w5.heap[b]? = some (.cells #[.map (some Bb), v', vM, vK] 90 (0, 0)) := by rw [hb5.block b hbl]; exact p1
  have hne : ∀ k, k ≠ b → (w5.setCell ⟨b, 0, none⟩ (.map (some w4.heap.size))).heap[k]? = w5.heap[k]? := fun k hk => Below.heap_setCell _ _ _ _ (fun e => hk e)
  have hz6 : (w5.setCell ⟨b, 0, none⟩ (.map (some w4.heap.size))).heap.size = w5.heap.size := by simp [World.setCell]
  refine ⟨fun k => (F k ∨ w.heap.size ≤ k) ∧ k < w4.heap.size + 1, ⟨fun k hk => by rw [hz6, hz5]; exact hk.2, w4.heap.size, v', vM, vK, ?_⟩, fun k hk => hk.1, ?_⟩
  · exact {
      blk := by rw [heap_set hk5]; rfl
      fb := ⟨Or.inl fb, by omega⟩
      fB := ⟨Or.inr p4.size, by omega⟩
      say := MapL.stay hm5 (hne _ (by omega))
      row := owns_stay p3 (fun k hk => by rw [hne k (fun e => blk_ne p1 p3 (by decide) (by rw [hk, e])), hb5.block k (p5 k hk).2])
      frow := fun k hk => ⟨(p5 k hk).1, by have := (p5 k hk).2; omega⟩
      inv := hi }
  · exact (p4.then (FrameF.of_below hb5)).then (frame_set fb)

set_option maxHeartbeats 4000000 in
set_option maxRecDepth 100000 in
theorem pFlush (w : World) (F : Nat → Prop) (b : Nat) (buf : List Ent) (ss : List (List Ent)) (hP : PE2 w F b buf ss) :
    Calls Tryz.prog 29 #[.pointer (some ⟨b, 0, none⟩)] w fun e w' => e = .returned (.int .i64 (flushL buf ss).1) ∧
      ∃ F' : Nat → Prop, PE2 w' F' b (flushL buf ss).2.1 (flushL buf ss).2.2 ∧ (∀ k, F' k → F k ∨ w.heap.size ≤ k) ∧ FrameF F w w' := by
  have HP : Hid (PE2 w F b buf ss) := hP
  obtain ⟨i9, hi9, hy0, hy1, hy2⟩ := info_parts Tryz.info9
  have hmm := @run_makeMap Tryz.prog
  obtain ⟨hF, Bb, vS, vM, vK, hE⟩ := hP
  obtain ⟨aS, cS, rfl, hcS⟩ := owns_slice hE.row
  have HE : Hid (PEn w F b buf ss Bb (.slice aS ss.length cS) vM vK) := hE
  have HF : Hid (∀ k, F k → k < w.heap.size) := hF
  have hc0 : w.cell? ⟨b, 0, none⟩ = some (.map (some Bb)) := by rw [cell_of_heap hE.blk]; rfl
  have hc1 : w.cell? ⟨b, 1, none⟩ = some (.slice aS ss.length cS) := by rw [cell_of_heap hE.blk]; rfl
  have hf1 : w.frozen? ⟨b, 1, none⟩ = false := frozen_of_heap hE.blk 1
  have hlen := fun (ty : TypeId) => MapL.len hE.say Tryz.underlying85 ty
  rw [List.length_map] at hlen
  have h6 := hE.inv.few
  have HI : Hid (Inv (flushL buf ss).2.1 (flushL buf ss).2.2) := inv_flush hE.inv
  have hbl := inv_buf hE.inv
  have hbb := hF b hE.fb
  clear hF hE
  by_cases h0 : buf.length = 0
  · have HU : Hid (flushL buf ss = (5, buf, ss)) := by show flushL _ _ = _; unfold flushL; rw [if_pos h0]
    rw [h0] at hlen
    clear h0
    go_enter Tryz.func29, Tryz.ntmps29
    go_wp2
    go_ret
    refine ⟨ret_int (by rw [HU.out]; rfl), F, ?_, fun k hk => Or.inl hk, FrameF.refl _ _⟩
    rw [HU.out]
    exact HP.out
  · have h0i : ((buf.length : Int) == 0) = false := beq_eq_false_iff_ne.2 (by omega)
    by_cases h6' : 6 ≤ ss.length
    · have HU : Hid (flushL buf ss = (4, buf, ss)) := by show flushL _ _ = _; unfold flushL; rw [if_neg h0, if_pos h6']
      have h6i : (6 : Int) ≤ (ss.length : Int) := by omega
      clear h0 h6'
      go_enter Tryz.func29, Tryz.ntmps29
      go_wp2
      go_ret
      refine ⟨ret_int (by rw [HU.out]; rfl), F, ?_, fun k hk => Or.inl hk, FrameF.refl _ _⟩
      rw [HU.out]
      exact HP.out
    · have HU : Hid (flushL buf ss = (0, [], if 0 < (flushed buf ss).length then ss ++ [flushed buf ss] else ss)) := by show flushL _ _ = _; unfold flushL; rw [if_neg h0, if_neg h6']
      have h6i : ¬ (6 : Int) ≤ (ss.length : Int) := by omega
      have HOK : Hid (0 < (flushed buf ss).length → OkSeg (flushed buf ss)) := by
        intro hp
        have hi := HI.out
        rw [HU.out] at hi
        simp only [if_pos hp] at hi
        exact hi.segs _ (by simp)
      clear h0
      by_cases hs0 : ss.length = 0
      · have HFl : Hid (flushed buf ss = livingL buf) := by show flushed _ _ = _; unfold flushed; rw [if_pos hs0]
        have hs0i : ((ss.length : Int) == 0) = true := beq_iff_eq.2 (by omega)
        have hwg := without_any Bb buf w HE.out.say (by omega) (fun e he => inv_short HE.out.inv buf (by simp) e he)
        have HUU : Hid (flushL buf ss = (0, [], segsTo ss (livingL buf))) := by show flushL _ _ = _; rw [HU.out, HFl.out]; rfl
        have HINV : Hid (Inv [] (segsTo ss (livingL buf))) := by have := HI.out; rw [HUU.out] at this; exact this
        clear h6' hs0
        go_enter Tryz.func29, Tryz.ntmps29
        go_wp2_with fail
        refine hwg.mono ?_
        rintro e w1 ⟨C, rfl, hC, hs1, hb1⟩
        have HBW : Hid (Below w.heap.size w w1.drew) := ⟨hb1.os, hb1.tape, hb1.output, hb1.size, hb1.block⟩
        have hl1 : w1.cell? ⟨b, 1, none⟩ = some (.slice aS ss.length cS) := cell_later hb1 hc1
        have hpu := pue_any C (livingL buf) w1.drew hs1 (by rw [← HFl.out]; exact HOK.out)
        clear hwg hs1 hb1
        go_wp2_with fail
        clear hlen h0i h6i hs0i
        refine wp_region_held (S := fun w' => True) (by kernel_rfl) ?_
        refine wpAnyH_take (i := 0) (v := ?_) rfl (by kernel_rfl) (by kernel_rfl) (by kernel_rfl) (fun _ _ _ h => h) (Or.inl ⟨by rfl, ?_⟩) trivial ?_
        rotate_left
        · rintro w' _; go_simp; first | done | with_reducible rfl
        refine wpAnyH_take (i := 1) (v := ?_) rfl (by kernel_rfl) (by kernel_rfl) (by kernel_rfl) (fun _ _ _ h => h) (Or.inl ⟨by rfl, ?_⟩) trivial ?_
        rotate_left
        · rintro w' _; go_simp; first | done | with_reducible rfl
        refine wpAnyH_take (i := 2) (v := ?_) rfl (by kernel_rfl) (by kernel_rfl) (by kernel_rfl) (fun _ _ _ h => h) (Or.inl ⟨by rfl, ?_⟩) trivial ?_
        rotate_left
        · rintro w' _; go_simp; first | done | with_reducible rfl
        refine wpAnyH_take (i := 3) (v := ?_) rfl (by kernel_rfl) (by kernel_rfl) (by kernel_rfl) (fun _ _ _ h => h) (Or.inl ⟨by rfl, ?_⟩) trivial ?_
        rotate_left
        · rintro w' _; go_simp; first | done | with_reducible rfl
        refine wpAnyH_take (i := 5) (v := ?_) rfl (by kernel_rfl) (by kernel_rfl) (by kernel_rfl) (fun _ _ _ h => h) (Or.inl ⟨by rfl, ?_⟩) trivial ?_
        rotate_left
        · rintro w' _; go_simp; first | done | with_reducible rfl
        refine wpAnyH_all (rs := [4, 6]) (by kernel_rfl) (by simp) ?_
        intro i hi
        simp only [List.mem_cons, List.mem_nil_iff, or_false] at hi
        rcases hi with rfl | rfl
        · refine wpOp_step (by rfl) fun K' hK' => ?_
          rw [if_pos (by rfl)]
          unfold Oper.wp
          go_simp
          refine hK' _ _ ⟨trivial, ?_⟩
          clear hK'
          refine wpAnyH_all (rs := [6]) (by kernel_rfl) (by simp) ?_
          intro i hi
          simp only [List.mem_singleton] at hi
          subst hi
          refine wpOp_step (by rfl) fun K' hK' => ?_
          rw [if_pos (by rfl)]
          unfold Oper.wp
          go_simp
          refine hpu.mono ?_
          rintro e w2 ⟨v2, rfl, hR2, hb2⟩
          have hB2 : Below w.heap.size w w2 := HBW.out.trans (hb2.mono HBW.out.size)
          have hz2 := hB2.size
          have hk2 : w2.heap[b]? = some (.cells #[.map (some Bb), .slice aS ss.length cS, vM, vK] 90 (0, 0)) := by rw [hB2.block b hbb]; exact HE.out.blk
          have hO2 : w2.ownsRow 0 9 1 (.slice aS ss.length cS) ss.length (strVals (ss.map packC)) := owns_stay HE.out.row (fun k hk => hB2.block k (HF.out k (HE.out.frow k hk)))
          have hl2 : w2.cell? ⟨b, 1, none⟩ = some (.slice aS ss.length cS) := by rw [cell_of_heap hk2]; rfl
          refine hK' _ _ ⟨trivial, ?_⟩
          clear hK' hpu hb2
          refine wpAnyH_all (rs := [7]) (by kernel_rfl) (by simp) ?_
          intro i hi7
          simp only [List.mem_singleton] at hi7
          subst hi7
          refine wpOp_step (by rfl) fun K' hK' => ?_
          rw [if_pos (by rfl)]
          refine oper_append_full _ _ _ 31 rfl 0 9 i9 (.string ⟨#[]⟩) 16 Tryz.underlying31 hi9 hy0 hy1 hy2 rfl _ _ _ rfl hO2 _ _ rfl hR2 strVals_one ?c1 ?c2 (Nat.zero_le _) ?_
          case c1 => rw [strVals_length]; have := packs_len (livingL buf); omega
          case c2 => rw [strVals_length]; have := packs_len (livingL buf); unfold maxLen; omega
          intro v3 w3 hO3 hg3 hl3
          obtain ⟨a3, c3, rfl, hc3⟩ := owns_slice hO3
          have hk3 : w3.heap[b]? = some (.cells #[.map (some Bb), .slice aS ss.length cS, vM, vK] 90 (0, 0)) := by rw [hg3.block b (heap_lt hk2) (fun e => blk_ne hk2 hO2 (by decide) e.symm)]; exact hk2
          refine hK' _ _ ⟨trivial, ?_⟩
          clear hK'
          have hrow3 : w3.ownsRow 0 9 1 (.slice a3 (ss.length + (strVals (packsL (livingL buf))).length) c3) (segsTo ss (livingL buf)).length (strVals ((segsTo ss (livingL buf)).map packC)) := by
            rw [segsTo_vals, segsTo_len]
            exact hO3
          have hEnd := HE.out.segs HF.out hB2 (FrameF.of_grown' hg3) hrow3 (fun k hk => by
            rcases hl3 with h | h
            · exact Or.inl (h.symm.trans hk)
            · have hk' := h.symm.trans hk; cases hk'; exact Or.inr (Nat.le_refl _))
          refine wpAnyH_take (i := 8) (v := ?_) rfl (by kernel_rfl) (by kernel_rfl) (by kernel_rfl) (fun _ _ _ h => h) (Or.inl ⟨by rfl, ?_⟩) trivial ?_
          rotate_left
          · rintro w' _; go_simp; first | done | with_reducible rfl
          refine wpAnyH_take (i := 9) (v := ?_) rfl (by kernel_rfl) (by kernel_rfl) (by kernel_rfl) (fun _ _ _ h => h) (Or.inl ⟨by rfl, ?_⟩) trivial ?_
          rotate_left
          · rintro w' _; go_simp; first | done | with_reducible rfl
          have hcw : w3.cell? ⟨b, 1, none⟩ = some (.slice aS ss.length cS) := by rw [cell_of_heap hk3]; rfl
          have hfw : w3.frozen? ⟨b, 1, none⟩ = false := frozen_of_heap hk3 1
          clear hO3 hg3 hl3 hrow3 hk3 hO2 hR2 hk2 hB2
          refine wpAnyH_all (rs := [10]) (by kernel_rfl) (by simp) ?_
          intro i hi
          simp only [List.mem_singleton] at hi
          subst hi
          refine wpOp_step (by rfl) fun K' hK' => ?_
          rw [if_pos (by rfl)]
          unfold Oper.wp
          go_simp
          refine hK' _ _ ⟨trivial, wpAnyH_done (by kernel_rfl) ?_ _⟩
          clear hK' hcw hfw
          obtain ⟨w4, hw4⟩ : ∃ w4, w4 = w3.setCell ⟨b, 1, none⟩ (.slice a3 (ss.length + (strVals (packsL (livingL buf))).length) c3) := ⟨_, rfl⟩
          have hz4 : w4.heap.size = w3.heap.size := by rw [hw4]; simp [World.setCell]
          rw [← hw4] at hEnd ⊢
          obtain ⟨p1, p2, p3, p4, p5⟩ := hEnd
          rw [← hz4] at p5
          have HFin := pflush_end HE.out.fb p1 p3 p4 p5 HINV.out
          have hk5 : (w4.alloc (.map #[] 0)).heap[b]? = some (.cells #[.map (some Bb), .slice a3 (ss.length + (strVals (packsL (livingL buf))).length) c3, vM, vK] 90 (0, 0)) := by rw [Below.heap_alloc _ _ _ (heap_lt p1)]; exact p1
          have hc5 : (w4.alloc (.map #[] 0)).cell? ⟨b, 0, none⟩ = some (.map (some Bb)) := by rw [cell_of_heap hk5]; rfl
          have hf5 : (w4.alloc (.map #[] 0)).frozen? ⟨b, 0, none⟩ = false := frozen_of_heap hk5 0
          have HFin' : Hid (∃ F' : Nat → Prop, PE2 ((w4.alloc (.map #[] 0)).setCell ⟨b, 0, none⟩ (.map (some w4.heap.size))) F' b [] (segsTo ss (livingL buf)) ∧ (∀ k, F' k → F k ∨ w.heap.size ≤ k) ∧ FrameF F w ((w4.alloc (.map #[] 0)).setCell ⟨b, 0, none⟩ (.map (some w4.heap.size)))) := HFin
          clear hw4 hz4 p1 p2 p3 p4 p5 HFin hk5
          go_wp2
          go_ret
          refine ⟨ret_int (by rw [HUU.out]; rfl), ?_⟩
          rw [HUU.out]
          exact HFin'.out
        · refine wpOp_step (by rfl) fun K' hK' => ?_
          rw [if_pos (by rfl)]
          unfold Oper.wp
          go_simp
          refine hpu.mono ?_
          rintro e w2 ⟨v2, rfl, hR2, hb2⟩
          have hB2 : Below w.heap.size w w2 := HBW.out.trans (hb2.mono HBW.out.size)
          have hz2 := hB2.size
          have hk2 : w2.heap[b]? = some (.cells #[.map (some Bb), .slice aS ss.length cS, vM, vK] 90 (0, 0)) := by rw [hB2.block b hbb]; exact HE.out.blk
          have hO2 : w2.ownsRow 0 9 1 (.slice aS ss.length cS) ss.length (strVals (ss.map packC)) := owns_stay HE.out.row (fun k hk => hB2.block k (HF.out k (HE.out.frow k hk)))
          have hl2 : w2.cell? ⟨b, 1, none⟩ = some (.slice aS ss.length cS) := by rw [cell_of_heap hk2]; rfl
          refine hK' _ _ ⟨trivial, ?_⟩
          clear hK' hpu hb2
          refine wpAnyH_all (rs := [4]) (by kernel_rfl) (by simp) ?_
          intro i hi
          simp only [List.mem_singleton] at hi
          subst hi
          refine wpOp_step (by rfl) fun K' hK' => ?_
          rw [if_pos (by rfl)]
          unfold Oper.wp
          go_simp
          refine hK' _ _ ⟨trivial, ?_⟩
          clear hK'
          refine wpAnyH_all (rs := [7]) (by kernel_rfl) (by simp) ?_
          intro i hi7
          simp only [List.mem_singleton] at hi7
          subst hi7
          refine wpOp_step (by rfl) fun K' hK' => ?_
          rw [if_pos (by rfl)]
          refine oper_append_full _ _ _ 31 rfl 0 9 i9 (.string ⟨#[]⟩) 16 Tryz.underlying31 hi9 hy0 hy1 hy2 rfl _ _ _ rfl hO2 _ _ rfl hR2 strVals_one ?c1 ?c2 (Nat.zero_le _) ?_
          case c1 => rw [strVals_length]; have := packs_len (livingL buf); omega
          case c2 => rw [strVals_length]; have := packs_len (livingL buf); unfold maxLen; omega
          intro v3 w3 hO3 hg3 hl3
          obtain ⟨a3, c3, rfl, hc3⟩ := owns_slice hO3
          have hk3 : w3.heap[b]? = some (.cells #[.map (some Bb), .slice aS ss.length cS, vM, vK] 90 (0, 0)) := by rw [hg3.block b (heap_lt hk2) (fun e => blk_ne hk2 hO2 (by decide) e.symm)]; exact hk2
          refine hK' _ _ ⟨trivial, ?_⟩
          clear hK'
          have hrow3 : w3.ownsRow 0 9 1 (.slice a3 (ss.length + (strVals (packsL (livingL buf))).length) c3) (segsTo ss (livingL buf)).length (strVals ((segsTo ss (livingL buf)).map packC)) := by
            rw [segsTo_vals, segsTo_len]
            exact hO3
          have hEnd := HE.out.segs HF.out hB2 (FrameF.of_grown' hg3) hrow3 (fun k hk => by
            rcases hl3 with h | h
            · exact Or.inl (h.symm.trans hk)
            · have hk' := h.symm.trans hk; cases hk'; exact Or.inr (Nat.le_refl _))
          refine wpAnyH_take (i := 8) (v := ?_) rfl (by kernel_rfl) (by kernel_rfl) (by kernel_rfl) (fun _ _ _ h => h) (Or.inl ⟨by rfl, ?_⟩) trivial ?_
          rotate_left
          · rintro w' _; go_simp; first | done | with_reducible rfl
          refine wpAnyH_take (i := 9) (v := ?_) rfl (by kernel_rfl) (by kernel_rfl) (by kernel_rfl) (fun _ _ _ h => h) (Or.inl ⟨by rfl, ?_⟩) trivial ?_
          rotate_left
          · rintro w' _; go_simp; first | done | with_reducible rfl
          have hcw : w3.cell? ⟨b, 1, none⟩ = some (.slice aS ss.length cS) := by rw [cell_of_heap hk3]; rfl
          have hfw : w3.frozen? ⟨b, 1, none⟩ = false := frozen_of_heap hk3 1
          clear hO3 hg3 hl3 hrow3 hk3 hO2 hR2 hk2 hB2
          refine wpAnyH_all (rs := [10]) (by kernel_rfl) (by simp) ?_
          intro i hi
          simp only [List.mem_singleton] at hi
          subst hi
          refine wpOp_step (by rfl) fun K' hK' => ?_
          rw [if_pos (by rfl)]
          unfold Oper.wp
          go_simp
          refine hK' _ _ ⟨trivial, wpAnyH_done (by kernel_rfl) ?_ _⟩
          clear hK' hcw hfw
          obtain ⟨w4, hw4⟩ : ∃ w4, w4 = w3.setCell ⟨b, 1, none⟩ (.slice a3 (ss.length + (strVals (packsL (livingL buf))).length) c3) := ⟨_, rfl⟩
          have hz4 : w4.heap.size = w3.heap.size := by rw [hw4]; simp [World.setCell]
          rw [← hw4] at hEnd ⊢
          obtain ⟨p1, p2, p3, p4, p5⟩ := hEnd
          rw [← hz4] at p5
          have HFin := pflush_end HE.out.fb p1 p3 p4 p5 HINV.out
          have hk5 : (w4.alloc (.map #[] 0)).heap[b]? = some (.cells #[.map (some Bb), .slice a3 (ss.length + (strVals (packsL (livingL buf))).length) c3, vM, vK] 90 (0, 0)) := by rw [Below.heap_alloc _ _ _ (heap_lt p1)]; exact p1
          have hc5 : (w4.alloc (.map #[] 0)).cell? ⟨b, 0, none⟩ = some (.map (some Bb)) := by rw [cell_of_heap hk5]; rfl
          have hf5 : (w4.alloc (.map #[] 0)).frozen? ⟨b, 0, none⟩ = false := frozen_of_heap hk5 0
          have HFin' : Hid (∃ F' : Nat → Prop, PE2 ((w4.alloc (.map #[] 0)).setCell ⟨b, 0, none⟩ (.map (some w4.heap.size))) F' b [] (segsTo ss (livingL buf)) ∧ (∀ k, F' k → F k ∨ w.heap.size ≤ k) ∧ FrameF F w ((w4.alloc (.map #[] 0)).setCell ⟨b, 0, none⟩ (.map (some w4.heap.size)))) := HFin
          clear hw4 hz4 p1 p2 p3 p4 p5 HFin hk5
          go_wp2
          go_ret
          refine ⟨ret_int (by rw [HUU.out]; rfl), ?_⟩
          rw [HUU.out]
          exact HFin'.out
      · have HFl : Hid (flushed buf ss = buf) := by show flushed _ _ = _; unfold flushed; rw [if_neg hs0]
        have hs0i : ((ss.length : Int) == 0) = false := beq_eq_false_iff_ne.2 (by omega)
        have hpu := pue_any Bb buf w.drew HE.out.say (by rw [← HFl.out]; exact HOK.out)
        change Calls _ _ _ _ (fun en w' => ∃ v, en = .returned v ∧ Rd w' v (strVals (packsL buf)) ∧ Below w.heap.size w.drew w') at hpu
        clear h6'
        go_enter Tryz.func29, Tryz.ntmps29
        go_wp2_with fail
        clear hlen h0i h6i hs0i
        have HUU : Hid (flushL buf ss = (0, [], segsTo ss buf)) := by show flushL _ _ = _; rw [HU.out, HFl.out]; rfl
        have HINV : Hid (Inv [] (segsTo ss buf)) := by have := HI.out; rw [HUU.out] at this; exact this
        have HBW : Hid (Below w.heap.size w w.drew) := ⟨rfl, rfl, rfl, Nat.le_refl _, fun _ _ => rfl⟩
        refine wp_region_held (S := fun w' => True) (by kernel_rfl) ?_
        refine wpAnyH_take (i := 0) (v := ?_) rfl (by kernel_rfl) (by kernel_rfl) (by kernel_rfl) (fun _ _ _ h => h) (Or.inl ⟨by rfl, ?_⟩) trivial ?_
        rotate_left
        · rintro w' _; go_simp; first | done | with_reducible rfl
        refine wpAnyH_take (i := 1) (v := ?_) rfl (by kernel_rfl) (by kernel_rfl) (by kernel_rfl) (fun _ _ _ h => h) (Or.inl ⟨by rfl, ?_⟩) trivial ?_
        rotate_left
        · rintro w' _; go_simp; first | done | with_reducible rfl
        refine wpAnyH_take (i := 2) (v := ?_) rfl (by kernel_rfl) (by kernel_rfl) (by kernel_rfl) (fun _ _ _ h => h) (Or.inl ⟨by rfl, ?_⟩) trivial ?_
        rotate_left
        · rintro w' _; go_simp; first | done | with_reducible rfl
        refine wpAnyH_take (i := 3) (v := ?_) rfl (by kernel_rfl) (by kernel_rfl) (by kernel_rfl) (fun _ _ _ h => h) (Or.inl ⟨by rfl, ?_⟩) trivial ?_
        rotate_left
        · rintro w' _; go_simp; first | done | with_reducible rfl
        refine wpAnyH_take (i := 5) (v := ?_) rfl (by kernel_rfl) (by kernel_rfl) (by kernel_rfl) (fun _ _ _ h => h) (Or.inl ⟨by rfl, ?_⟩) trivial ?_
        rotate_left
        · rintro w' _; go_simp; first | done | with_reducible rfl
        refine wpAnyH_all (rs := [4, 6]) (by kernel_rfl) (by simp) ?_
        intro i hi
        simp only [List.mem_cons, List.mem_nil_iff, or_false] at hi
        rcases hi with rfl | rfl
        · refine wpOp_step (by rfl) fun K' hK' => ?_
          rw [if_pos (by rfl)]
          unfold Oper.wp
          go_simp
          refine hK' _ _ ⟨trivial, ?_⟩
          clear hK'
          refine wpAnyH_all (rs := [6]) (by kernel_rfl) (by simp) ?_
          intro i hi
          simp only [List.mem_singleton] at hi
          subst hi
          refine wpOp_step (by rfl) fun K' hK' => ?_
          rw [if_pos (by rfl)]
          unfold Oper.wp
          go_simp
          refine hpu.mono ?_
          rintro e w2 ⟨v2, rfl, hR2, hb2⟩
          have hB2 : Below w.heap.size w w2 := HBW.out.trans (hb2.mono HBW.out.size)
          have hz2 := hB2.size
          have hk2 : w2.heap[b]? = some (.cells #[.map (some Bb), .slice aS ss.length cS, vM, vK] 90 (0, 0)) := by rw [hB2.block b hbb]; exact HE.out.blk
          have hO2 : w2.ownsRow 0 9 1 (.slice aS ss.length cS) ss.length (strVals (ss.map packC)) := owns_stay HE.out.row (fun k hk => hB2.block k (HF.out k (HE.out.frow k hk)))
          have hl2 : w2.cell? ⟨b, 1, none⟩ = some (.slice aS ss.length cS) := by rw [cell_of_heap hk2]; rfl
          refine hK' _ _ ⟨trivial, ?_⟩
          clear hK' hpu hb2
          refine wpAnyH_all (rs := [7]) (by kernel_rfl) (by simp) ?_
          intro i hi7
          simp only [List.mem_singleton] at hi7
          subst hi7
          refine wpOp_step (by rfl) fun K' hK' => ?_
          rw [if_pos (by rfl)]
          refine oper_append_full _ _ _ 31 rfl 0 9 i9 (.string ⟨#[]⟩) 16 Tryz.underlying31 hi9 hy0 hy1 hy2 rfl _ _ _ rfl hO2 _ _ rfl hR2 strVals_one ?c1 ?c2 (Nat.zero_le _) ?_
          case c1 => rw [strVals_length]; have := packs_len (buf); omega
          case c2 => rw [strVals_length]; have := packs_len (buf); unfold maxLen; omega
          intro v3 w3 hO3 hg3 hl3
          obtain ⟨a3, c3, rfl, hc3⟩ := owns_slice hO3
          have hk3 : w3.heap[b]? = some (.cells #[.map (some Bb), .slice aS ss.length cS, vM, vK] 90 (0, 0)) := by rw [hg3.block b (heap_lt hk2) (fun e => blk_ne hk2 hO2 (by decide) e.symm)]; exact hk2
          refine hK' _ _ ⟨trivial, ?_⟩
          clear hK'
          have hrow3 : w3.ownsRow 0 9 1 (.slice a3 (ss.length + (strVals (packsL (buf))).length) c3) (segsTo ss (buf)).length (strVals ((segsTo ss (buf)).map packC)) := by
            rw [segsTo_vals, segsTo_len]
            exact hO3
          have hEnd := HE.out.segs HF.out hB2 (FrameF.of_grown' hg3) hrow3 (fun k hk => by
            rcases hl3 with h | h
            · exact Or.inl (h.symm.trans hk)
            · have hk' := h.symm.trans hk; cases hk'; exact Or.inr (Nat.le_refl _))
          refine wpAnyH_take (i := 8) (v := ?_) rfl (by kernel_rfl) (by kernel_rfl) (by kernel_rfl) (fun _ _ _ h => h) (Or.inl ⟨by rfl, ?_⟩) trivial ?_
          rotate_left
          · rintro w' _; go_simp; first | done | with_reducible rfl
          refine wpAnyH_take (i := 9) (v := ?_) rfl (by kernel_rfl) (by kernel_rfl) (by kernel_rfl) (fun _ _ _ h => h) (Or.inl ⟨by rfl, ?_⟩) trivial ?_
          rotate_left
          · rintro w' _; go_simp; first | done | with_reducible rfl
          have hcw : w3.cell? ⟨b, 1, none⟩ = some (.slice aS ss.length cS) := by rw [cell_of_heap hk3]; rfl
          have hfw : w3.frozen? ⟨b, 1, none⟩ = false := frozen_of_heap hk3 1
          clear hO3 hg3 hl3 hrow3 hk3 hO2 hR2 hk2 hB2
          refine wpAnyH_all (rs := [10]) (by kernel_rfl) (by simp) ?_
          intro i hi
          simp only [List.mem_singleton] at hi
          subst hi
          refine wpOp_step (by rfl) fun K' hK' => ?_
          rw [if_pos (by rfl)]
          unfold Oper.wp
          go_simp
          refine hK' _ _ ⟨trivial, wpAnyH_done (by kernel_rfl) ?_ _⟩
          clear hK' hcw hfw
          obtain ⟨w4, hw4⟩ : ∃ w4, w4 = w3.setCell ⟨b, 1, none⟩ (.slice a3 (ss.length + (strVals (packsL (buf))).length) c3) := ⟨_, rfl⟩
          have hz4 : w4.heap.size = w3.heap.size := by rw [hw4]; simp [World.setCell]
          rw [← hw4] at hEnd ⊢
          obtain ⟨p1, p2, p3, p4, p5⟩ := hEnd
          rw [← hz4] at p5
          have HFin := pflush_end HE.out.fb p1 p3 p4 p5 HINV.out
          have hk5 : (w4.alloc (.map #[] 0)).heap[b]? = some (.cells #[.map (some Bb), .slice a3 (ss.length + (strVals (packsL (buf))).length) c3, vM, vK] 90 (0, 0)) := by rw [Below.heap_alloc _ _ _ (heap_lt p1)]; exact p1
          have hc5 : (w4.alloc (.map #[] 0)).cell? ⟨b, 0, none⟩ = some (.map (some Bb)) := by rw [cell_of_heap hk5]; rfl
          have hf5 : (w4.alloc (.map #[] 0)).frozen? ⟨b, 0, none⟩ = false := frozen_of_heap hk5 0
          have HFin' : Hid (∃ F' : Nat → Prop, PE2 ((w4.alloc (.map #[] 0)).setCell ⟨b, 0, none⟩ (.map (some w4.heap.size))) F' b [] (segsTo ss (buf)) ∧ (∀ k, F' k → F k ∨ w.heap.size ≤ k) ∧ FrameF F w ((w4.alloc (.map #[] 0)).setCell ⟨b, 0, none⟩ (.map (some w4.heap.size)))) := HFin
          clear hw4 hz4 p1 p2 p3 p4 p5 HFin hk5
          go_wp2
          go_ret
          refine ⟨ret_int (by rw [HUU.out]; rfl), ?_⟩
          rw [HUU.out]
          exact HFin'.out
        · refine wpOp_step (by rfl) fun K' hK' => ?_
          rw [if_pos (by rfl)]
          unfold Oper.wp
          go_simp
          refine hpu.mono ?_
          rintro e w2 ⟨v2, rfl, hR2, hb2⟩
          have hB2 : Below w.heap.size w w2 := HBW.out.trans (hb2.mono HBW.out.size)
          have hz2 := hB2.size
          have hk2 : w2.heap[b]? = some (.cells #[.map (some Bb), .slice aS ss.length cS, vM, vK] 90 (0, 0)) := by rw [hB2.block b hbb]; exact HE.out.blk
          have hO2 : w2.ownsRow 0 9 1 (.slice aS ss.length cS) ss.length (strVals (ss.map packC)) := owns_stay HE.out.row (fun k hk => hB2.block k (HF.out k (HE.out.frow k hk)))
          have hl2 : w2.cell? ⟨b, 1, none⟩ = some (.slice aS ss.length cS) := by rw [cell_of_heap hk2]; rfl
          refine hK' _ _ ⟨trivial, ?_⟩
          clear hK' hpu hb2
          refine wpAnyH_all (rs := [4]) (by kernel_rfl) (by simp) ?_
          intro i hi
          simp only [List.mem_singleton] at hi
          subst hi
          refine wpOp_step (by rfl) fun K' hK' => ?_
          rw [if_pos (by rfl)]
          unfold Oper.wp
          go_simp
          refine hK' _ _ ⟨trivial, ?_⟩
          clear hK'
          refine wpAnyH_all (rs := [7]) (by kernel_rfl) (by simp) ?_
          intro i hi7
          simp only [List.mem_singleton] at hi7
          subst hi7
          refine wpOp_step (by rfl) fun K' hK' => ?_
          rw [if_pos (by rfl)]
          refine oper_append_full _ _ _ 31 rfl 0 9 i9 (.string ⟨#[]⟩) 16 Tryz.underlying31 hi9 hy0 hy1 hy2 rfl _ _ _ rfl hO2 _ _ rfl hR2 strVals_one ?c1 ?c2 (Nat.zero_le _) ?_
          case c1 => rw [strVals_length]; have := packs_len (buf); omega
          case c2 => rw [strVals_length]; have := packs_len (buf); unfold maxLen; omega
          intro v3 w3 hO3 hg3 hl3
          obtain ⟨a3, c3, rfl, hc3⟩ := owns_slice hO3
          have hk3 : w3.heap[b]? = some (.cells #[.map (some Bb), .slice aS ss.length cS, vM, vK] 90 (0, 0)) := by rw [hg3.block b (heap_lt hk2) (fun e => blk_ne hk2 hO2 (by decide) e.symm)]; exact hk2
          refine hK' _ _ ⟨trivial, ?_⟩
          clear hK'
          have hrow3 : w3.ownsRow 0 9 1 (.slice a3 (ss.length + (strVals (packsL (buf))).length) c3) (segsTo ss (buf)).length (strVals ((segsTo ss (buf)).map packC)) := by
            rw [segsTo_vals, segsTo_len]
            exact hO3
          have hEnd := HE.out.segs HF.out hB2 (FrameF.of_grown' hg3) hrow3 (fun k hk => by
            rcases hl3 with h | h
            · exact Or.inl (h.symm.trans hk)
            · have hk' := h.symm.trans hk; cases hk'; exact Or.inr (Nat.le_refl _))
          refine wpAnyH_take (i := 8) (v := ?_) rfl (by kernel_rfl) (by kernel_rfl) (by kernel_rfl) (fun _ _ _ h => h) (Or.inl ⟨by rfl, ?_⟩) trivial ?_
          rotate_left
          · rintro w' _; go_simp; first | done | with_reducible rfl
          refine wpAnyH_take (i := 9) (v := ?_) rfl (by kernel_rfl) (by kernel_rfl) (by kernel_rfl) (fun _ _ _ h => h) (Or.inl ⟨by rfl, ?_⟩) trivial ?_
          rotate_left
          · rintro w' _; go_simp; first | done | with_reducible rfl
          have hcw : w3.cell? ⟨b, 1, none⟩ = some (.slice aS ss.length cS) := by rw [cell_of_heap hk3]; rfl
          have hfw : w3.frozen? ⟨b, 1, none⟩ = false := frozen_of_heap hk3 1
          clear hO3 hg3 hl3 hrow3 hk3 hO2 hR2 hk2 hB2
          refine wpAnyH_all (rs := [10]) (by kernel_rfl) (by simp) ?_
          intro i hi
          simp only [List.mem_singleton] at hi
          subst hi
          refine wpOp_step (by rfl) fun K' hK' => ?_
          rw [if_pos (by rfl)]
          unfold Oper.wp
          go_simp
          refine hK' _ _ ⟨trivial, wpAnyH_done (by kernel_rfl) ?_ _⟩
          clear hK' hcw hfw
          obtain ⟨w4, hw4⟩ : ∃ w4, w4 = w3.setCell ⟨b, 1, none⟩ (.slice a3 (ss.length + (strVals (packsL (buf))).length) c3) := ⟨_, rfl⟩
          have hz4 : w4.heap.size = w3.heap.size := by rw [hw4]; simp [World.setCell]
          rw [← hw4] at hEnd ⊢
          obtain ⟨p1, p2, p3, p4, p5⟩ := hEnd
          rw [← hz4] at p5
          have HFin := pflush_end HE.out.fb p1 p3 p4 p5 HINV.out
          have hk5 : (w4.alloc (.map #[] 0)).heap[b]? = some (.cells #[.map (some Bb), .slice a3 (ss.length + (strVals (packsL (buf))).length) c3, vM, vK] 90 (0, 0)) := by rw [Below.heap_alloc _ _ _ (heap_lt p1)]; exact p1
          have hc5 : (w4.alloc (.map #[] 0)).cell? ⟨b, 0, none⟩ = some (.map (some Bb)) := by rw [cell_of_heap hk5]; rfl
          have hf5 : (w4.alloc (.map #[] 0)).frozen? ⟨b, 0, none⟩ = false := frozen_of_heap hk5 0
          have HFin' : Hid (∃ F' : Nat → Prop, PE2 ((w4.alloc (.map #[] 0)).setCell ⟨b, 0, none⟩ (.map (some w4.heap.size))) F' b [] (segsTo ss (buf)) ∧ (∀ k, F' k → F k ∨ w.heap.size ≤ k) ∧ FrameF F w ((w4.alloc (.map #[] 0)).setCell ⟨b, 0, none⟩ (.map (some w4.heap.size)))) := HFin
          clear hw4 hz4 p1 p2 p3 p4 p5 HFin hk5
          go_wp2
          go_ret
          refine ⟨ret_int (by rw [HUU.out]; rfl), ?_⟩
          rw [HUU.out]
          exact HFin'.out

end Go.Proofs.YtocbogeoffeolaaGreatDoor

namespace Go.Proofs.YtocbogeoffeolaaGreatDoor
open Go.RowKit Go.Maps

theorem lays2 {w : World} {C D : Nat} {la lb : List Ent} {t : TypeId} {g : Nat} (hg : g = w.heap.size) (h1 : SayM w C la) (h2 : SayM w D lb) : LaysR (w.alloc (.cells #[.map (some C), .map (some D)] t)) (.slice (some ⟨g, 0, none⟩) 2 2) [C, D] [la, lb] where
  rd := by
    subst hg
    refine ⟨some ⟨w.heap.size, 0, none⟩, 2, rfl, Nat.le_refl _, by unfold maxLen; omega, fun j u hj => ⟨w.heap.size, 0, rfl, ?_⟩⟩
    rw [World.cell?_alloc_at _ _ _ _ rfl]
    match j, hj with
    | 0, hj => simpa [mapV] using hj
    | 1, hj => simpa [mapV] using hj
    | j + 2, hj => simp at hj
  len := rfl
  each := fun i h h' => by
    have hb : Below w.heap.size w (w.alloc (.cells #[.map (some C), .map (some D)] t)) := (Below.refl _ _).alloc (Nat.le_refl _) _
    match i, h, h' with
    | 0, _, _ => exact MapL.below h1 hb
    | 1, _, _ => exact MapL.below h2 hb
    | i + 2, h, _ => exact absurd h (by simp)
theorem psegs_end {w w4 : World} {F : Nat → Prop} {b : Nat} {buf : List Ent} {ss ss' : List (List Ent)} {Bb : Nat} {vS vM vK v' : Value} (hE : PEn w F b buf ss Bb vS vM vK) (hF : ∀ k, F k → k < w.heap.size)
    (h : w4.heap[b]? = some (.cells #[.map (some Bb), v', vM, vK] 90 (0, 0)) ∧ SayM w4 Bb buf ∧ w4.ownsRow 0 9 1 v' ss'.length (strVals (ss'.map packC)) ∧ FrameF F w w4 ∧ (∀ k, v'.ownBlock = some k → (F k ∨ w.heap.size ≤ k) ∧ k < w4.heap.size)) (hi : Inv buf ss') :
    ∃ F' : Nat → Prop, PE2 w4 F' b buf ss' ∧ (∀ k, F' k → F k ∨ w.heap.size ≤ k) ∧ FrameF F w w4 := by
  obtain ⟨p1, p2, p3, p4, p5⟩ := h
  refine ⟨fun k => (F k ∨ w.heap.size ≤ k) ∧ k < w4.heap.size, ⟨fun k hk => hk.2, Bb, v', vM, vK, ?_⟩, fun k hk => hk.1, p4⟩
  exact {
    blk := p1
    fb := ⟨Or.inl hE.fb, heap_lt p1⟩
    fB := ⟨Or.inl hE.fB, Nat.lt_of_lt_of_le (hF Bb hE.fB) p4.size⟩
    say := p2
    row := p3
    frow := fun k hk => p5 k hk
    inv := hi }
theorem there_short {buf : List Ent} {ss : List (List Ent)} (h : Inv buf ss) : ∀ e ∈ thereL ss buf, e.name.length ≤ maxLen := by
  intro e he
  rw [there_eq] at he
  unfold livingL at he
  exact foldO_short (inv_short h) e (List.mem_filter.1 he).1
theorem load_there (ss : List (List Ent)) (l : List Ent) : livingL (foldO [thereL ss [], l]) = thereL (ss ++ [l]) [] := by
  have e : foldO [thereL ss [], l] = overL (thereL ss []) l := by unfold foldO; simp only [List.foldl_cons, List.foldl_nil]; rw [over_nil]
  rw [e, there_eq, there_eq, living_over_living, foldO_snoc, over_nil', foldO_snoc, foldO_snoc, over_nil']

set_option maxHeartbeats 4000000 in
set_option maxRecDepth 100000 in
theorem pLoad (w : World) (F : Nat → Prop) (b : Nat) (buf : List Ent) (ss : List (List Ent)) (packed : ByteArray) (hP : PE2 w F b buf ss) (hs : packed.size ≤ maxLen) :
    Calls Tryz.prog 25 #[.pointer (some ⟨b, 0, none⟩), .string packed] w fun e w' => e = .returned (.int .i64 (loadL buf ss packed.data.toList).1) ∧
      ∃ F' : Nat → Prop, PE2 w' F' b buf (loadL buf ss packed.data.toList).2 ∧ (∀ k, F' k → F k ∨ w.heap.size ≤ k) ∧ FrameF F w w' := by
  have HP : Hid (PE2 w F b buf ss) := hP
  obtain ⟨i9, hi9, hy0, hy1, hy2⟩ := info_parts Tryz.info9
  obtain ⟨hF, Bb, vS, vM, vK, hE⟩ := hP
  obtain ⟨aS, cS, rfl, hcS⟩ := owns_slice hE.row
  have HE : Hid (PEn w F b buf ss Bb (.slice aS ss.length cS) vM vK) := hE
  have HF : Hid (∀ k, F k → k < w.heap.size) := hF
  have hc0 : w.cell? ⟨b, 0, none⟩ = some (.map (some Bb)) := by rw [cell_of_heap hE.blk]; rfl
  have hc1 : w.cell? ⟨b, 1, none⟩ = some (.slice aS ss.length cS) := by rw [cell_of_heap hE.blk]; rfl
  have h6 := hE.inv.few
  have HI : Hid (Inv buf (loadL buf ss packed.data.toList).2) := inv_load hE.inv _
  have hbl := inv_buf hE.inv
  have hbb := hF b hE.fb
  have hst := strange_any packed w hs
  clear hF hE
  cases hu : unpackL packed.data.toList with
  | none =>
    have HU : Hid (loadL buf ss packed.data.toList = (7, ss)) := by show loadL _ _ _ = _; unfold loadL; rw [hu]
    rw [hu] at hst
    clear hu
    go_enter Tryz.func25, Tryz.ntmps25
    go_wp2_with fail
    refine hst.mono ?_
    rintro e w1 ⟨hb1, ho1⟩
    unfold StrO at ho1
    subst ho1
    have HB1 : Hid (Below w.heap.size w w1) := hb1
    clear hb1 hst
    go_wp2
    go_ret
    refine ⟨ret_int (by rw [HU.out]; rfl), F, ?_, fun k hk => Or.inl hk, FrameF.of_below HB1.out⟩
    rw [HU.out]
    exact HP.out.below HB1.out
  | some l =>
    have HPk : Hid (packC l = packed.data.toList) := (unpack_ok hu).2
    have HOl : Hid (OkSeg l) := (unpack_ok hu).1
    have HU : Hid (loadL buf ss packed.data.toList = if 0 < buf.length then (3, ss) else if 6 < ss.length + 1 ∨ 30 < (thereL (ss ++ [l]) []).length then (4, ss) else (0, ss ++ [l])) := by show loadL _ _ _ = _; unfold loadL; rw [hu]
    have hps : packed.size ≤ 281474976710656 := by
      have h1 := packC_len HOl.out
      rw [HPk.out] at h1
      have : packed.data.toList.length = packed.size := by simp
      omega
    rw [hu] at hst
    clear hu
    by_cases hb0 : 0 < buf.length
    · have HUU : Hid (loadL buf ss packed.data.toList = (3, ss)) := by show loadL _ _ _ = _; rw [HU.out, if_pos hb0]
      have hb0i : (0 : Int) < (buf.length : Int) := by omega
      clear hb0
      go_enter Tryz.func25, Tryz.ntmps25
      go_wp2_with fail
      refine hst.mono ?_
      rintro e w1 ⟨hb1, ho1⟩
      unfold StrO at ho1
      obtain ⟨D, rfl, hD, hs1⟩ := ho1
      have HB1 : Hid (Below w.heap.size w w1) := hb1
      have hc0' := cell_later hb1 hc0
      have hlen := fun (ty : TypeId) => MapL.len (MapL.below HE.out.say hb1) Tryz.underlying85 ty
      rw [List.length_map] at hlen
      clear hb1 hst hs1
      go_wp2
      go_ret
      refine ⟨ret_int (by rw [HUU.out]; rfl), F, ?_, fun k hk => Or.inl hk, FrameF.of_below HB1.out⟩
      rw [HUU.out]
      exact HP.out.below HB1.out
    · have hbz : buf = [] := List.length_eq_zero_iff.1 (by omega)
      by_cases h6' : 6 ≤ ss.length
      · have HUU : Hid (loadL buf ss packed.data.toList = (4, ss)) := by show loadL _ _ _ = _; rw [HU.out, if_neg hb0, if_pos (Or.inl (by omega))]
        have h6i : (6 : Int) ≤ (ss.length : Int) := by omega
        have hb0i : buf.length = 0 := by omega
        clear hb0 h6' hbz
        go_enter Tryz.func25, Tryz.ntmps25
        go_wp2_with fail
        refine hst.mono ?_
        rintro e w1 ⟨hb1, ho1⟩
        unfold StrO at ho1
        obtain ⟨D, rfl, hD, hs1⟩ := ho1
        have HB1 : Hid (Below w.heap.size w w1) := hb1
        have hc0' := cell_later hb1 hc0
        have hc1' := cell_later hb1 hc1
        have hlen := fun (ty : TypeId) => MapL.len (MapL.below HE.out.say hb1) Tryz.underlying85 ty
        rw [List.length_map, hb0i] at hlen
        clear hb1 hst hs1 hb0i
        go_wp2
        go_ret
        refine ⟨ret_int (by rw [HUU.out]; rfl), F, ?_, fun k hk => Or.inl hk, FrameF.of_below HB1.out⟩
        rw [HUU.out]
        exact HP.out.below HB1.out
      · have HTH : Hid (livingL (foldO [thereL ss buf, l]) = thereL (ss ++ [l]) []) := by show _ = _; rw [hbz]; exact load_there ss l
        have h6i : ¬ (6 : Int) ≤ (ss.length : Int) := by omega
        have hb0i : buf.length = 0 := by omega
        have HU1 : Hid (loadL buf ss packed.data.toList = if 30 < (livingL (foldO [thereL ss buf, l])).length then (4, ss) else (0, ss ++ [l])) := by
          show loadL _ _ _ = _
          rw [HU.out, if_neg hb0, HTH.out]
          by_cases h : 30 < (thereL (ss ++ [l]) []).length
          · rw [if_pos (Or.inr h), if_pos h]
          · rw [if_neg (by rintro (h' | h'); omega; exact h h'), if_neg h]
        clear hb0 hbz
        go_enter Tryz.func25, Tryz.ntmps25
        go_wp2_with fail
        refine hst.mono ?_
        rintro e w1 ⟨hb1, ho1⟩
        unfold StrO at ho1
        obtain ⟨D, rfl, hD, hs1⟩ := ho1
        have hz1 := hb1.size
        have HB1 : Hid (Below w.heap.size w w1) := hb1
        have hc0' := cell_later hb1 hc0
        have hc1' := cell_later hb1 hc1
        have hlen := fun (ty : TypeId) => MapL.len (MapL.below HE.out.say hb1) Tryz.underlying85 ty
        rw [List.length_map, hb0i] at hlen
        have HS1 : Hid (SayM w1 D l) := hs1
        have hth := pthere_any F b buf ss Bb _ vM vK w1 (HE.out.stay (fun k hk => hb1.block k (HF.out k hk)))
        have htl : (thereL ss buf).length ≤ 30 := HE.out.inv.all
        clear hb1 hst hs1
        go_wp2_with fail
        refine hth.mono ?_
        rintro e w2 ⟨C, rfl, hC, hs2, hb2⟩
        have hz2 := hb2.size
        have HB2 : Hid (Below w.heap.size w w2) := HB1.out.trans (hb2.mono hz1)
        have hmg := lmerge_any _ [C, D] [thereL ss buf, l] _ (lays2 (t := 85) rfl hs2 (MapL.below HS1.out hb2)) (by
            have := okseg_len HOl.out
            simp [bulkS]
            omega) (by
            intro x hx e he
            simp only [List.mem_cons, List.mem_nil_iff, or_false] at hx
            rcases hx with rfl | rfl
            · exact there_short HE.out.inv e he
            · exact okseg_short HOl.out e he)
        clear hth hb2 hs2 hlen hb0i
        go_wp2_with fail
        refine hmg.mono ?_
        rintro e w3 ⟨M, rfl, hM, hs3, hb3⟩
        have hz3 : w2.heap.size ≤ w3.heap.size := by have := hb3.size; simp at this; omega
        have HB3 : Hid (Below w.heap.size w w3) := (HB2.out.alloc (by omega) _).trans (hb3.mono (by simp; omega))
        have hwg := without_any M _ w3 hs3 (by
            have h1 := foldO_len [thereL ss buf, l] 2 (by simp)
            have := okseg_len HOl.out
            simp only [List.take] at h1
            have h2 : bulkS [thereL ss buf, l] ≤ 1000 := by simp [bulkS]; omega
            omega) (foldO_short (by
            intro x hx e he
            simp only [List.mem_cons, List.mem_nil_iff, or_false] at hx
            rcases hx with rfl | rfl
            · exact there_short HE.out.inv e he
            · exact okseg_short HOl.out e he))
        clear hmg hb3 hs3
        go_wp2_with fail
        refine hwg.mono ?_
        rintro e w4 ⟨N, rfl, hN, hs4, hb4⟩
        have hz4 := hb4.size
        have HB4 : Hid (Below w.heap.size w w4) := HB3.out.trans (hb4.mono (by omega))
        have hlen4 := fun (ty : TypeId) => MapL.len hs4 Tryz.underlying85 ty
        rw [List.length_map] at hlen4
        clear hwg hb4 hs4
        by_cases h30 : 30 < (livingL (foldO [thereL ss buf, l])).length
        · have HUU : Hid (loadL buf ss packed.data.toList = (4, ss)) := by show loadL _ _ _ = _; rw [HU1.out, if_pos h30]
          have h30i : (30 : Int) < ((livingL (foldO [thereL ss buf, l])).length : Int) := by omega
          clear h30
          go_wp2
          go_ret
          refine ⟨ret_int (by rw [HUU.out]; rfl), F, ?_, fun k hk => Or.inl hk, FrameF.of_below HB4.out⟩
          rw [HUU.out]
          exact HP.out.below HB4.out
        · have HUU : Hid (loadL buf ss packed.data.toList = (0, ss ++ [l])) := by show loadL _ _ _ = _; rw [HU1.out, if_neg h30]
          have h30i : ¬ (30 : Int) < ((livingL (foldO [thereL ss buf, l])).length : Int) := by omega
          have HINV : Hid (Inv buf (ss ++ [l])) := by have := HI.out; rw [HUU.out] at this; exact this
          have HBW : Hid (Below w.heap.size w w4.drew) := ⟨HB4.out.os, HB4.out.tape, HB4.out.output, HB4.out.size, HB4.out.block⟩
          have hcl := clone_any packed w4.drew hps
          have hl1 : w4.cell? ⟨b, 1, none⟩ = some (.slice aS ss.length cS) := cell_later HB4.out hc1
          clear h30 HU1 HU
          go_wp2_with fail
          clear h30i hlen4 h6i
          refine wp_region_held (S := fun w' => True) (by kernel_rfl) ?_
          refine wpAnyH_take (i := 0) (v := ?_) rfl (by kernel_rfl) (by kernel_rfl) (by kernel_rfl) (fun _ _ _ h => h) (Or.inl ⟨by rfl, ?_⟩) trivial ?_
          rotate_left
          · rintro w' _; go_simp; first | done | with_reducible rfl
          refine wpAnyH_take (i := 1) (v := ?_) rfl (by kernel_rfl) (by kernel_rfl) (by kernel_rfl) (fun _ _ _ h => h) (Or.inl ⟨by rfl, ?_⟩) trivial ?_
          rotate_left
          · rintro w' _; go_simp; first | done | with_reducible rfl
          refine wpAnyH_take (i := 2) (v := ?_) rfl (by kernel_rfl) (by kernel_rfl) (by kernel_rfl) (fun _ _ _ h => h) (Or.inl ⟨by rfl, ?_⟩) trivial ?_
          rotate_left
          · rintro w' _; go_simp; first | done | with_reducible rfl
          refine wpAnyH_take (i := 3) (v := ?_) rfl (by kernel_rfl) (by kernel_rfl) (by kernel_rfl) (fun _ _ _ h => h) (Or.inl ⟨by rfl, ?_⟩) trivial ?_
          rotate_left
          · rintro w' _; go_simp; first | done | with_reducible rfl
          refine wpAnyH_take (i := 5) (v := ?_) rfl (by kernel_rfl) (by kernel_rfl) (by kernel_rfl) (fun _ _ _ h => h) (Or.inl ⟨by rfl, ?_⟩) trivial ?_
          rotate_left
          · rintro w' _; go_simp; first | done | with_reducible rfl
          refine wpAnyH_all (rs := [4, 6]) (by kernel_rfl) (by simp) ?_
          intro i hi
          simp only [List.mem_cons, List.mem_nil_iff, or_false] at hi
          rcases hi with rfl | rfl
          · refine wpOp_step (by rfl) fun K' hK' => ?_
            rw [if_pos (by rfl)]
            unfold Oper.wp
            go_simp
            refine hK' _ _ ⟨trivial, ?_⟩
            clear hK'
            refine wpAnyH_all (rs := [6]) (by kernel_rfl) (by simp) ?_
            intro i hi
            simp only [List.mem_singleton] at hi
            subst hi
            refine wpOp_step (by rfl) fun K' hK' => ?_
            rw [if_pos (by rfl)]
            unfold Oper.wp
            go_simp
            refine hcl.mono ?_
            rintro e x2 ⟨rfl, hb2⟩
            have hBx2 : Below w.heap.size w x2 := HBW.out.trans (hb2.mono HBW.out.size)
            have hzx2 := hBx2.size
            have hk2 : x2.heap[b]? = some (.cells #[.map (some Bb), .slice aS ss.length cS, vM, vK] 90 (0, 0)) := by rw [hBx2.block b hbb]; exact HE.out.blk
            have hl2 : x2.cell? ⟨b, 1, none⟩ = some (.slice aS ss.length cS) := by rw [cell_of_heap hk2]; rfl
            refine hK' _ _ ⟨trivial, ?_⟩
            clear hK' hcl hb2
            refine wpAnyH_all (rs := [7]) (by kernel_rfl) (by simp) ?_
            intro i hi
            simp only [List.mem_singleton] at hi
            subst hi
            refine wpOp_step (by rfl) fun K' hK' => ?_
            rw [if_pos (by rfl)]
            unfold Oper.wp
            go_simp
            obtain ⟨x3, hx3⟩ : ∃ x3, x3 = x2.alloc (.cells #[.string packed] 9) := ⟨_, rfl⟩
            rw [← hx3]
            have hbx3 : Below x2.heap.size x2 x3 := by rw [hx3]; exact (Below.refl _ _).alloc (Nat.le_refl _) _
            have hR3 : Rd x3 (.slice (some ⟨x2.heap.size, 0, none⟩) 1 1) (strVals [packed.data.toList]) := by rw [hx3, show strVals [packed.data.toList] = [.string packed] from rfl]; exact Rd.one cell_new
            have hBx3 : Below w.heap.size w x3 := hBx2.trans (hbx3.mono hzx2)
            have hk3 : x3.heap[b]? = some (.cells #[.map (some Bb), .slice aS ss.length cS, vM, vK] 90 (0, 0)) := by rw [hBx3.block b hbb]; exact HE.out.blk
            have hO3 : x3.ownsRow 0 9 1 (.slice aS ss.length cS) ss.length (strVals (ss.map packC)) := owns_stay HE.out.row (fun k hk => hBx3.block k (HF.out k (HE.out.frow k hk)))
            have hlx3 : x3.cell? ⟨b, 1, none⟩ = some (.slice aS ss.length cS) := by rw [cell_of_heap hk3]; rfl
            refine hK' _ _ ⟨trivial, ?_⟩
            clear hK' hx3 hbx3
            refine wpAnyH_all (rs := [8]) (by kernel_rfl) (by simp) ?_
            intro i hi8
            simp only [List.mem_singleton] at hi8
            subst hi8
            refine wpOp_step (by rfl) fun K' hK' => ?_
            rw [if_pos (by rfl)]
            refine oper_append_full _ _ _ 31 rfl 0 9 i9 (.string ⟨#[]⟩) 16 Tryz.underlying31 hi9 hy0 hy1 hy2 rfl _ _ _ rfl hO3 _ _ rfl hR3 strVals_one ?c1 ?c2 (Nat.zero_le _) ?_
            case c1 => rw [strVals_length]; simp; omega
            case c2 => rw [strVals_length]; unfold maxLen; simp; omega
            intro v4 x4 hO4 hg4 hl4
            obtain ⟨a4, c4, rfl, hc4⟩ := owns_slice hO4
            have hk4 : x4.heap[b]? = some (.cells #[.map (some Bb), .slice aS ss.length cS, vM, vK] 90 (0, 0)) := by rw [hg4.block b (heap_lt hk3) (fun e => blk_ne hk3 hO3 (by decide) e.symm)]; exact hk3
            refine hK' _ _ ⟨trivial, ?_⟩
            clear hK'
            have hrow4 : x4.ownsRow 0 9 1 (.slice a4 (ss.length + (strVals [packed.data.toList]).length) c4) (ss ++ [l]).length (strVals ((ss ++ [l]).map packC)) := by
              rw [List.map_append, List.length_append, show strVals (ss.map packC ++ [l].map packC) = strVals (ss.map packC) ++ strVals [packed.data.toList] by simp [strVals, HPk.out]]
              exact hO4
            have hEnd := HE.out.segs HF.out hBx3 (FrameF.of_grown' hg4) hrow4 (fun k hk => by
              rcases hl4 with h | h
              · exact Or.inl (h.symm.trans hk)
              · have hk' := h.symm.trans hk; cases hk'; exact Or.inr (Nat.le_refl _))
            refine wpAnyH_take (i := 9) (v := ?_) rfl (by kernel_rfl) (by kernel_rfl) (by kernel_rfl) (fun _ _ _ h => h) (Or.inl ⟨by rfl, ?_⟩) trivial ?_
            rotate_left
            · rintro w' _; go_simp; first | done | with_reducible rfl
            refine wpAnyH_take (i := 10) (v := ?_) rfl (by kernel_rfl) (by kernel_rfl) (by kernel_rfl) (fun _ _ _ h => h) (Or.inl ⟨by rfl, ?_⟩) trivial ?_
            rotate_left
            · rintro w' _; go_simp; first | done | with_reducible rfl
            have hcw : x4.cell? ⟨b, 1, none⟩ = some (.slice aS ss.length cS) := by rw [cell_of_heap hk4]; rfl
            have hfw : x4.frozen? ⟨b, 1, none⟩ = false := frozen_of_heap hk4 1
            clear hO4 hg4 hl4 hrow4 hk4 hO3 hR3 hk3 hlx3 hBx3 hBx2 hk2 hl2
            refine wpAnyH_all (rs := [11]) (by kernel_rfl) (by simp) ?_
            intro i hi
            simp only [List.mem_singleton] at hi
            subst hi
            refine wpOp_step (by rfl) fun K' hK' => ?_
            rw [if_pos (by rfl)]
            unfold Oper.wp
            go_simp
            refine hK' _ _ ⟨trivial, wpAnyH_done (by kernel_rfl) ?_ _⟩
            clear hK' hcw hfw
            obtain ⟨x5, hx5⟩ : ∃ x5, x5 = x4.setCell ⟨b, 1, none⟩ (.slice a4 (ss.length + (strVals [packed.data.toList]).length) c4) := ⟨_, rfl⟩
            have hzx5 : x5.heap.size = x4.heap.size := by rw [hx5]; simp [World.setCell]
            rw [← hx5] at hEnd ⊢
            rw [← hzx5] at hEnd
            have HFin : Hid (∃ F' : Nat → Prop, PE2 x5 F' b buf (ss ++ [l]) ∧ (∀ k, F' k → F k ∨ w.heap.size ≤ k) ∧ FrameF F w x5) := psegs_end HE.out HF.out hEnd HINV.out
            clear hx5 hzx5 hEnd
            go_wp2
            go_ret
            refine ⟨ret_int (by rw [HUU.out]; rfl), ?_⟩
            rw [HUU.out]
            exact HFin.out
          · refine wpOp_step (by rfl) fun K' hK' => ?_
            rw [if_pos (by rfl)]
            unfold Oper.wp
            go_simp
            refine hcl.mono ?_
            rintro e x2 ⟨rfl, hb2⟩
            have hBx2 : Below w.heap.size w x2 := HBW.out.trans (hb2.mono HBW.out.size)
            have hzx2 := hBx2.size
            have hk2 : x2.heap[b]? = some (.cells #[.map (some Bb), .slice aS ss.length cS, vM, vK] 90 (0, 0)) := by rw [hBx2.block b hbb]; exact HE.out.blk
            have hl2 : x2.cell? ⟨b, 1, none⟩ = some (.slice aS ss.length cS) := by rw [cell_of_heap hk2]; rfl
            refine hK' _ _ ⟨trivial, ?_⟩
            clear hK' hcl hb2
            refine wpAnyH_all (rs := [4, 7]) (by kernel_rfl) (by simp) ?_
            intro i hi
            simp only [List.mem_cons, List.mem_nil_iff, or_false] at hi
            rcases hi with rfl | rfl
            · refine wpOp_step (by rfl) fun K' hK' => ?_
              rw [if_pos (by rfl)]
              unfold Oper.wp
              go_simp
              refine hK' _ _ ⟨trivial, ?_⟩
              clear hK'
              refine wpAnyH_all (rs := [7]) (by kernel_rfl) (by simp) ?_
              intro i hi
              simp only [List.mem_singleton] at hi
              subst hi
              refine wpOp_step (by rfl) fun K' hK' => ?_
              rw [if_pos (by rfl)]
              unfold Oper.wp
              go_simp
              obtain ⟨x3, hx3⟩ : ∃ x3, x3 = x2.alloc (.cells #[.string packed] 9) := ⟨_, rfl⟩
              rw [← hx3]
              have hbx3 : Below x2.heap.size x2 x3 := by rw [hx3]; exact (Below.refl _ _).alloc (Nat.le_refl _) _
              have hR3 : Rd x3 (.slice (some ⟨x2.heap.size, 0, none⟩) 1 1) (strVals [packed.data.toList]) := by rw [hx3, show strVals [packed.data.toList] = [.string packed] from rfl]; exact Rd.one cell_new
              have hBx3 : Below w.heap.size w x3 := hBx2.trans (hbx3.mono hzx2)
              have hk3 : x3.heap[b]? = some (.cells #[.map (some Bb), .slice aS ss.length cS, vM, vK] 90 (0, 0)) := by rw [hBx3.block b hbb]; exact HE.out.blk
              have hO3 : x3.ownsRow 0 9 1 (.slice aS ss.length cS) ss.length (strVals (ss.map packC)) := owns_stay HE.out.row (fun k hk => hBx3.block k (HF.out k (HE.out.frow k hk)))
              have hlx3 : x3.cell? ⟨b, 1, none⟩ = some (.slice aS ss.length cS) := by rw [cell_of_heap hk3]; rfl
              refine hK' _ _ ⟨trivial, ?_⟩
              clear hK' hx3 hbx3
              refine wpAnyH_all (rs := [8]) (by kernel_rfl) (by simp) ?_
              intro i hi8
              simp only [List.mem_singleton] at hi8
              subst hi8
              refine wpOp_step (by rfl) fun K' hK' => ?_
              rw [if_pos (by rfl)]
              refine oper_append_full _ _ _ 31 rfl 0 9 i9 (.string ⟨#[]⟩) 16 Tryz.underlying31 hi9 hy0 hy1 hy2 rfl _ _ _ rfl hO3 _ _ rfl hR3 strVals_one ?c1 ?c2 (Nat.zero_le _) ?_
              case c1 => rw [strVals_length]; simp; omega
              case c2 => rw [strVals_length]; unfold maxLen; simp; omega
              intro v4 x4 hO4 hg4 hl4
              obtain ⟨a4, c4, rfl, hc4⟩ := owns_slice hO4
              have hk4 : x4.heap[b]? = some (.cells #[.map (some Bb), .slice aS ss.length cS, vM, vK] 90 (0, 0)) := by rw [hg4.block b (heap_lt hk3) (fun e => blk_ne hk3 hO3 (by decide) e.symm)]; exact hk3
              refine hK' _ _ ⟨trivial, ?_⟩
              clear hK'
              have hrow4 : x4.ownsRow 0 9 1 (.slice a4 (ss.length + (strVals [packed.data.toList]).length) c4) (ss ++ [l]).length (strVals ((ss ++ [l]).map packC)) := by
                rw [List.map_append, List.length_append, show strVals (ss.map packC ++ [l].map packC) = strVals (ss.map packC) ++ strVals [packed.data.toList] by simp [strVals, HPk.out]]
                exact hO4
              have hEnd := HE.out.segs HF.out hBx3 (FrameF.of_grown' hg4) hrow4 (fun k hk => by
                rcases hl4 with h | h
                · exact Or.inl (h.symm.trans hk)
                · have hk' := h.symm.trans hk; cases hk'; exact Or.inr (Nat.le_refl _))
              refine wpAnyH_take (i := 9) (v := ?_) rfl (by kernel_rfl) (by kernel_rfl) (by kernel_rfl) (fun _ _ _ h => h) (Or.inl ⟨by rfl, ?_⟩) trivial ?_
              rotate_left
              · rintro w' _; go_simp; first | done | with_reducible rfl
              refine wpAnyH_take (i := 10) (v := ?_) rfl (by kernel_rfl) (by kernel_rfl) (by kernel_rfl) (fun _ _ _ h => h) (Or.inl ⟨by rfl, ?_⟩) trivial ?_
              rotate_left
              · rintro w' _; go_simp; first | done | with_reducible rfl
              have hcw : x4.cell? ⟨b, 1, none⟩ = some (.slice aS ss.length cS) := by rw [cell_of_heap hk4]; rfl
              have hfw : x4.frozen? ⟨b, 1, none⟩ = false := frozen_of_heap hk4 1
              clear hO4 hg4 hl4 hrow4 hk4 hO3 hR3 hk3 hlx3 hBx3 hBx2 hk2 hl2
              refine wpAnyH_all (rs := [11]) (by kernel_rfl) (by simp) ?_
              intro i hi
              simp only [List.mem_singleton] at hi
              subst hi
              refine wpOp_step (by rfl) fun K' hK' => ?_
              rw [if_pos (by rfl)]
              unfold Oper.wp
              go_simp
              refine hK' _ _ ⟨trivial, wpAnyH_done (by kernel_rfl) ?_ _⟩
              clear hK' hcw hfw
              obtain ⟨x5, hx5⟩ : ∃ x5, x5 = x4.setCell ⟨b, 1, none⟩ (.slice a4 (ss.length + (strVals [packed.data.toList]).length) c4) := ⟨_, rfl⟩
              have hzx5 : x5.heap.size = x4.heap.size := by rw [hx5]; simp [World.setCell]
              rw [← hx5] at hEnd ⊢
              rw [← hzx5] at hEnd
              have HFin : Hid (∃ F' : Nat → Prop, PE2 x5 F' b buf (ss ++ [l]) ∧ (∀ k, F' k → F k ∨ w.heap.size ≤ k) ∧ FrameF F w x5) := psegs_end HE.out HF.out hEnd HINV.out
              clear hx5 hzx5 hEnd
              go_wp2
              go_ret
              refine ⟨ret_int (by rw [HUU.out]; rfl), ?_⟩
              rw [HUU.out]
              exact HFin.out
            · refine wpOp_step (by rfl) fun K' hK' => ?_
              rw [if_pos (by rfl)]
              unfold Oper.wp
              go_simp
              obtain ⟨x3, hx3⟩ : ∃ x3, x3 = x2.alloc (.cells #[.string packed] 9) := ⟨_, rfl⟩
              rw [← hx3]
              have hbx3 : Below x2.heap.size x2 x3 := by rw [hx3]; exact (Below.refl _ _).alloc (Nat.le_refl _) _
              have hR3 : Rd x3 (.slice (some ⟨x2.heap.size, 0, none⟩) 1 1) (strVals [packed.data.toList]) := by rw [hx3, show strVals [packed.data.toList] = [.string packed] from rfl]; exact Rd.one cell_new
              have hBx3 : Below w.heap.size w x3 := hBx2.trans (hbx3.mono hzx2)
              have hk3 : x3.heap[b]? = some (.cells #[.map (some Bb), .slice aS ss.length cS, vM, vK] 90 (0, 0)) := by rw [hBx3.block b hbb]; exact HE.out.blk
              have hO3 : x3.ownsRow 0 9 1 (.slice aS ss.length cS) ss.length (strVals (ss.map packC)) := owns_stay HE.out.row (fun k hk => hBx3.block k (HF.out k (HE.out.frow k hk)))
              have hlx3 : x3.cell? ⟨b, 1, none⟩ = some (.slice aS ss.length cS) := by rw [cell_of_heap hk3]; rfl
              refine hK' _ _ ⟨trivial, ?_⟩
              clear hK' hx3 hbx3
              refine wpAnyH_all (rs := [4]) (by kernel_rfl) (by simp) ?_
              intro i hi
              simp only [List.mem_singleton] at hi
              subst hi
              refine wpOp_step (by rfl) fun K' hK' => ?_
              rw [if_pos (by rfl)]
              unfold Oper.wp
              go_simp
              refine hK' _ _ ⟨trivial, ?_⟩
              clear hK'
              refine wpAnyH_all (rs := [8]) (by kernel_rfl) (by simp) ?_
              intro i hi8
              simp only [List.mem_singleton] at hi8
              subst hi8
              refine wpOp_step (by rfl) fun K' hK' => ?_
              rw [if_pos (by rfl)]
              refine oper_append_full _ _ _ 31 rfl 0 9 i9 (.string ⟨#[]⟩) 16 Tryz.underlying31 hi9 hy0 hy1 hy2 rfl _ _ _ rfl hO3 _ _ rfl hR3 strVals_one ?c1 ?c2 (Nat.zero_le _) ?_
              case c1 => rw [strVals_length]; simp; omega
              case c2 => rw [strVals_length]; unfold maxLen; simp; omega
              intro v4 x4 hO4 hg4 hl4
              obtain ⟨a4, c4, rfl, hc4⟩ := owns_slice hO4
              have hk4 : x4.heap[b]? = some (.cells #[.map (some Bb), .slice aS ss.length cS, vM, vK] 90 (0, 0)) := by rw [hg4.block b (heap_lt hk3) (fun e => blk_ne hk3 hO3 (by decide) e.symm)]; exact hk3
              refine hK' _ _ ⟨trivial, ?_⟩
              clear hK'
              have hrow4 : x4.ownsRow 0 9 1 (.slice a4 (ss.length + (strVals [packed.data.toList]).length) c4) (ss ++ [l]).length (strVals ((ss ++ [l]).map packC)) := by
                rw [List.map_append, List.length_append, show strVals (ss.map packC ++ [l].map packC) = strVals (ss.map packC) ++ strVals [packed.data.toList] by simp [strVals, HPk.out]]
                exact hO4
              have hEnd := HE.out.segs HF.out hBx3 (FrameF.of_grown' hg4) hrow4 (fun k hk => by
                rcases hl4 with h | h
                · exact Or.inl (h.symm.trans hk)
                · have hk' := h.symm.trans hk; cases hk'; exact Or.inr (Nat.le_refl _))
              refine wpAnyH_take (i := 9) (v := ?_) rfl (by kernel_rfl) (by kernel_rfl) (by kernel_rfl) (fun _ _ _ h => h) (Or.inl ⟨by rfl, ?_⟩) trivial ?_
              rotate_left
              · rintro w' _; go_simp; first | done | with_reducible rfl
              refine wpAnyH_take (i := 10) (v := ?_) rfl (by kernel_rfl) (by kernel_rfl) (by kernel_rfl) (fun _ _ _ h => h) (Or.inl ⟨by rfl, ?_⟩) trivial ?_
              rotate_left
              · rintro w' _; go_simp; first | done | with_reducible rfl
              have hcw : x4.cell? ⟨b, 1, none⟩ = some (.slice aS ss.length cS) := by rw [cell_of_heap hk4]; rfl
              have hfw : x4.frozen? ⟨b, 1, none⟩ = false := frozen_of_heap hk4 1
              clear hO4 hg4 hl4 hrow4 hk4 hO3 hR3 hk3 hlx3 hBx3 hBx2 hk2 hl2
              refine wpAnyH_all (rs := [11]) (by kernel_rfl) (by simp) ?_
              intro i hi
              simp only [List.mem_singleton] at hi
              subst hi
              refine wpOp_step (by rfl) fun K' hK' => ?_
              rw [if_pos (by rfl)]
              unfold Oper.wp
              go_simp
              refine hK' _ _ ⟨trivial, wpAnyH_done (by kernel_rfl) ?_ _⟩
              clear hK' hcw hfw
              obtain ⟨x5, hx5⟩ : ∃ x5, x5 = x4.setCell ⟨b, 1, none⟩ (.slice a4 (ss.length + (strVals [packed.data.toList]).length) c4) := ⟨_, rfl⟩
              have hzx5 : x5.heap.size = x4.heap.size := by rw [hx5]; simp [World.setCell]
              rw [← hx5] at hEnd ⊢
              rw [← hzx5] at hEnd
              have HFin : Hid (∃ F' : Nat → Prop, PE2 x5 F' b buf (ss ++ [l]) ∧ (∀ k, F' k → F k ∨ w.heap.size ≤ k) ∧ FrameF F w x5) := psegs_end HE.out HF.out hEnd HINV.out
              clear hx5 hzx5 hEnd
              go_wp2
              go_ret
              refine ⟨ret_int (by rw [HUU.out]; rfl), ?_⟩
              rw [HUU.out]
              exact HFin.out

end Go.Proofs.YtocbogeoffeolaaGreatDoor

namespace Go.Proofs.YtocbogeoffeolaaGreatDoor
open Go.RowKit Go.Maps

set_option maxHeartbeats 400000 in
set_option maxRecDepth 100000 in
theorem pNew (w : World) : Calls Tryz.prog 31 #[] w fun e w' => ∃ (b : Nat) (F : Nat → Prop), e = .returned (.pointer (some ⟨b, 0, none⟩)) ∧ PE2 w' F b [] [] ∧ (∀ k, F k → w.heap.size ≤ k) ∧ Below w.heap.size w w' := by
  have hmm := @run_makeMap Tryz.prog
  go_enter Tryz.func31, Tryz.ntmps31
  go_wp2_with fail
  refine (none_any _).mono ?_
  rintro e w1 ⟨B, rfl, hBl, hC, hb1⟩
  go_wp2
  go_ret
  have hz0 : (w.alloc (Obj.map #[] 0)).heap.size = w.heap.size + 1 := by simp
  have hm0 : SayM (w.alloc (Obj.map #[] 0)) w.heap.size [] := MapL.made w
  have hm1 : SayM w1 w.heap.size [] := MapL.below hm0 hb1
  rw [hz0] at hb1 hBl
  have hz1 := hb1.size
  rw [hz0] at hz1
  have hb : Below w.heap.size w w1 := ((Below.refl _ _).alloc (Nat.le_refl _) _).trans (hb1.mono (by omega))
  refine ⟨w1.heap.size, fun k => k = w1.heap.size ∨ k = w.heap.size, rfl, ⟨?_, w.heap.size, .slice none 0 0, .map (some B), .slice none 0 0, ?_⟩, ?_, hb.alloc (by omega) _⟩
  · rintro k (rfl | rfl)
    · simp
    · simp; omega
  · exact ⟨heap_new _ _, Or.inl rfl, Or.inr rfl, MapL.stay hm1 (Below.heap_alloc _ _ _ (by omega)), World.ownsRow_nil _ _ _ _, fun k hk => by simp [Value.ownBlock] at hk, inv_new⟩
  · rintro k (rfl | rfl)
    · omega
    · omega

end Go.Proofs.YtocbogeoffeolaaGreatDoor

namespace Go.Proofs.YtocbogeoffeolaaGreatDoor
open Go.RowKit Go.Maps

theorem run_clear_row {P : Program} (w : World) (t ty elem : TypeId) (g off k c : Nat) (z : Value) (cur : Array Value) (T : TypeId) (hu : P.underlying t = some (.slice elem)) (hz : (zeroValue elem).run P w = .ok z w) (hzc : z.cells = #[z]) (h1 : z.oneCell' = true)
    (hg : w.heap[g]? = some (.cells cur T (0, 0))) (hk : 0 < k) (hfit : off + k ≤ cur.size) :
    ∃ l' : List Value, l'.length = cur.size ∧ (∀ j, j < off → l'[j]? = cur[j]?) ∧ (Builtin.clear_ #[t] ty #[.slice (some ⟨g, off, none⟩) k c]).run P w = .ok (.tuple #[]) (w.setRow g l'.toArray) := by
  obtain ⟨k', rfl⟩ : ∃ k', k = k' + 1 := ⟨k - 1, by omega⟩
  have hZl : (Builtin.zeroCells #[z] (k' + 1)).toList.length = k' + 1 := by simp [size_zeroCells]
  have hZ1 : ∀ v ∈ (Builtin.zeroCells #[z] (k' + 1)).toList, v.oneCell' = true := by
    intro v hv
    simp [Builtin.zeroCells, Nat.mod_one] at hv
    rw [← hv.2]
    exact h1
  have hst := run_storeCells_at P g off T (Builtin.zeroCells #[z] (k' + 1)).toList 0 cur w hg (by rw [hZl]; omega) hZ1
  refine ⟨cur.toList.take (off + 0) ++ (Builtin.zeroCells #[z] (k' + 1)).toList ++ cur.toList.drop (off + 0 + (Builtin.zeroCells #[z] (k' + 1)).toList.length), ?_, ?_, ?_⟩
  · rw [List.length_append, List.length_append, hZl, List.length_take, List.length_drop]
    simp
    omega
  · intro j hj
    rw [List.append_assoc, List.getElem?_append_left (by rw [List.length_take]; simp; omega), List.getElem?_take, if_pos (by omega)]
    simp
  · unfold Builtin.clear_
    simp [run_underlying hu, hz, hzc, hst]

theorem frame_row {w : World} {g : Nat} {cs : Array Value} : FrameF (· = g) w (w.setRow g cs) := ⟨rfl, rfl, rfl, by simp [World.setRow], fun k _ hn => setRow_other w g k cs (fun e => hn (by omega))⟩

/-- A row whose first cells stay: a beginning of it stays owned. -/
theorem owns_row_turn {w' : World} {e m : Nat} {g cap : Nat} {ys : List Value} {l' : Array Value} (hm : m ≤ cap) (hcap : cap ≤ maxLen) (hy : ys.length = m) (hg : w'.heap[g]? = some (.cells l' e (0, 0))) (hl : l'.size = cap) (hc : ∀ j, j < m → l'[j]? = ys[j]?) : w'.ownsRow 0 e 1 (.slice (some ⟨g, 0, none⟩) m cap) m ys := by
  refine ⟨by omega, Or.inr ⟨g, cap, l', rfl, Nat.zero_le _, hg, hm, hcap, by omega, ?_⟩⟩
  apply List.ext_getElem?
  intro j
  rw [List.getElem?_take]
  split
  · rw [Array.getElem?_toList]
    exact hc j (by omega)
  · rw [List.getElem?_eq_none (by omega)]

/-- append where there is room: in place. -/
theorem run_append_here {P : Program} (w : World) (t ty e : TypeId) (i : TypeInfo) (ht : P.underlying t = some (.slice e)) (hi : P.info? e = some i) (hsize : i.size = 1) (g n c : Nat) (cur : Array Value) (hg : w.heap[g]? = some (.cells cur e (0, 0))) (hcs : cur.size = c)
    (x : Value) (news : List Value) (hx : Rd w x news) (h1 : ∀ u ∈ news, u.oneCell' = true) (hroom : n + news.length ≤ c) :
    ∃ l' : List Value, l'.length = c ∧ (∀ j, j < n → l'[j]? = cur[j]?) ∧ (∀ j, j < news.length → l'[n + j]? = news[j]?) ∧ (Builtin.append_ #[t, t] ty #[.slice (some ⟨g, 0, none⟩) n c, x]).run P w = .ok (.slice (some ⟨g, 0, none⟩) (n + news.length) c) (w.setRow g l'.toArray) := by
  obtain ⟨a, cap, rfl, hc, hm, hrd⟩ := hx
  cases a with
  | none =>
    have hn : news = [] := by
      cases news with
      | nil => rfl
      | cons u us => obtain ⟨b, off, he, _⟩ := hrd 0 u rfl; simp at he
    subst hn
    refine ⟨cur.toList, by simpa using hcs, fun j _ => by simp, fun j hj => by simp at hj, ?_⟩
    have := run_append_none (P := P) w t ty e i ht hi (some ⟨g, 0, none⟩) n c cap (by simp at hroom; omega)
    simp only [List.length_nil, Nat.add_zero]
    rw [this, Array.toArray_toList, setRow_self w g cur e (0, 0) hg]
  | some ad =>
    have hnews : ∀ j u, news[j]? = some u → w.cell? (ad.add j) = some u := by
      intro j u hj
      obtain ⟨b, off, he, hcell⟩ := hrd j u hj
      simp only [Option.some.injEq] at he
      subst he
      rw [Addr.add_lit]; exact hcell
    have hl : news.length = news.length * i.size := by rw [hsize]; omega
    have hr2 := run_append_room (P := P) w t ty e i ht hi g n c cur hg ad news.length cap news hl hnews h1 hroom (by rw [hcs, hsize]; omega)
    rw [hsize, Nat.mul_one] at hr2
    have hcl : cur.toList.length = c := by simpa using hcs
    refine ⟨_, ?_, ?_, ?_, hr2⟩
    · simp only [List.length_append, List.length_take, List.length_drop, hcl]
      omega
    · intro j hj
      rw [List.append_assoc, List.getElem?_append_left (by rw [List.length_take, hcl]; omega), List.getElem?_take, if_pos hj]
      simp
    · intro j hj
      rw [List.append_assoc, List.getElem?_append_right (by rw [List.length_take, hcl]; omega), List.length_take, hcl, Nat.min_eq_left (by omega), Nat.add_sub_cancel_left, List.getElem?_append_left hj]

theorem wpList_append_here {P : Program} (w : World) {ops : Array Oper} {rest : List Oper} {o : Oper} {a : Act} {Q : Exit → Act → World → Prop} (hgd : o.guard = none) (s x : Operand) (t : TypeId)
    (ho : o.op = .call { callee := .builtin .append, args := #[s, x], argTypes := #[t, t] }) (e : TypeId) (i : TypeInfo) (ht : P.underlying t = some (.slice e)) (hi : P.info? e = some i) (hsize : i.size = 1) (g n c : Nat) (cur : Array Value) (hg : w.heap[g]? = some (.cells cur e (0, 0))) (hcs : cur.size = c)
    (hs : a.eval s = .slice (some ⟨g, 0, none⟩) n c) (y : Value) (news : List Value) (hx : a.eval x = y) (hy : Rd w y news) (h1 : ∀ u ∈ news, u.oneCell' = true) (hroom : n + news.length ≤ c)
    (h : ∀ l' : List Value, l'.length = c → (∀ j, j < n → l'[j]? = cur[j]?) → (∀ j, j < news.length → l'[n + j]? = news[j]?) → wpList P ops Q rest (a.put o.dst (.slice (some ⟨g, 0, none⟩) (n + news.length) c)) (w.setRow g l'.toArray)) : wpList P ops Q (o :: rest) a w := by
  refine wpList_plain hgd fun _ hK => ?_
  obtain ⟨l', h2, h3, h4, hr⟩ := run_append_here (P := P) w t o.type e i ht hi hsize g n c cur hg hcs y news hy h1 hroom
  unfold Oper.wp execOp
  simp only [ho, resolve, invoke, builtin, Sem.run_bind, Sem.run_pure, Result.andThen_ok, List.map_toArray, List.map_cons, List.map_nil, hs, hx, hr]
  exact hK _ _ (h l' h2 h3 h4)

set_option maxHeartbeats 4000000 in
set_option maxRecDepth 100000 in
theorem replace_end (w : World) (g n cap : Nat) (xs : List Wd) (v : Value) (ps : List Wd) (hown : w.ownsRow 0 9 1 (.slice (some ⟨g, 0, none⟩) xs.length cap) xs.length (strVals xs)) (hv : Rd w v (strVals ps)) (hps : ps.length ≤ 1) (hn : n + 2 = xs.length) (hx6 : xs.length ≤ 6) :
    Calls Tryz.prog 74 #[.slice (some ⟨g, 0, none⟩) xs.length cap, .int .i64 n, .int .i64 ((n : Int) + 2), v] w fun e w' => ∃ v', e = .returned v' ∧ w'.ownsRow 0 9 1 v' (xs.take n ++ ps).length (strVals (xs.take n ++ ps)) ∧ FrameF (· = g) w w' ∧ ∀ k, v'.ownBlock = some k → k = g ∨ w.heap.size ≤ k := by
  obtain ⟨i9, hi9, _, hy1, _⟩ := info_parts Tryz.info9
  obtain ⟨av, cv, rfl, hcv, hmv, hrv⟩ := id hv
  rw [strVals_length] at hcv ⊢
  rcases hown.2 with ⟨he, _⟩ | ⟨g', cap', cur, he, _, hg, hlc, hcm, hcs, htk⟩
  · cases he
  simp only [Value.slice.injEq, Option.some.injEq, Addr.mk.injEq, and_true, true_and] at he
  obtain ⟨rfl, rfl⟩ := he
  have hcu : ∀ j, j < n → cur[j]? = (strVals (xs.take n))[j]? := by
    intro j hj
    have h1 := congrArg (fun l : List Value => l[j]?) htk
    simp only [List.getElem?_take] at h1
    rw [if_pos (by omega), Array.getElem?_toList] at h1
    rw [h1]
    unfold strVals
    rw [List.getElem?_map, List.getElem?_map, List.getElem?_take, if_pos hj]
  obtain ⟨L, hL⟩ : ∃ L, L = xs.length := ⟨_, rfl⟩
  rw [← hL] at hx6 hn hlc ⊢
  have HV : Hid (Rd w (.slice av ps.length cv) (strVals ps)) := by have := hv; rw [strVals_length] at this; exact this
  have HG : Hid (w.heap[g]? = some (.cells cur 9 (0, 0))) := hg
  have hcsz : cur.size = cap := by omega
  have HC : Hid (cur.size = cap) := hcsz
  have hj : IntKind.i64.wrap ((n : Int) + 2) = (n : Int) + 2 := by simp only [IntKind.wrap_i64]; omega
  have hne : ((n : Int) == (n : Int) + 2) = false := beq_eq_false_iff_ne.2 (by omega)
  have hle : (((n : Int) + 2) == (L : Int)) = true := beq_iff_eq.2 (by omega)
  have hle2 : (n : Int) + 2 ≤ (cap : Int) := by omega
  have hcn : ¬ cap = n := by omega
  have HLN : Hid (n + 2 = L) := hn
  have HXL : Hid (L = xs.length) := hL
  have HCU : Hid (∀ j, j < n → cur[j]? = (strVals (xs.take n))[j]?) := hcu
  unfold maxLen at hcm hmv
  clear hv hown hrv hg hcs htk hcu hL hcsz hn
  go_enter Tryz.func74, Tryz.ntmps74
  have hsp : n + (strVals ps).length ≤ cap := by rw [strVals_length]; omega
  go_wp2_with (first
    | (at_builtin; refine wpList_append_here _ rfl _ _ 31 rfl 9 i9 Tryz.underlying31 hi9 hy1 g n cap cur HG.out HC.out rfl _ _ rfl HV.out strVals_one hsp ?_))
  intro l1 hl1 ha1 hb1
  rw [strVals_length] at hb1 ⊢
  obtain ⟨w1, hw1⟩ : ∃ w1, w1 = w.setRow g l1.toArray := ⟨_, rfl⟩
  rw [← hw1]
  have HG1 : Hid (w1.heap[g]? = some (.cells l1.toArray 9 (0, 0))) := by show _ = _; rw [hw1]; exact setRow_heap w g _ _ _ _ HG.out
  have HF1 : Hid (FrameF (· = g) w w1) := by show FrameF _ _ _; rw [hw1]; exact frame_row
  have HA1 : Hid (∀ j, j < n → l1[j]? = cur[j]?) := ha1
  have HB1 : Hid (∀ j, j < ps.length → l1[n + j]? = (strVals ps)[j]?) := hb1
  have HL1 : Hid (l1.length = cap) := hl1
  have hlt : ((n + ps.length : Nat) : Int) < (L : Int) := by have := HLN.out; omega
  have hcnp : ¬ cap = n + ps.length := by have := HLN.out; omega
  clear hl1 ha1 hb1 hw1 hsp
  have hkp : 0 < L - (n + ps.length) := by have := HLN.out; omega
  have hfit : n + ps.length + (L - (n + ps.length)) ≤ l1.toArray.size := by have := HLN.out; have := HL1.out; simp; omega
  obtain ⟨l2, hl2, ha2, hr2⟩ := run_clear_row (P := Tryz.prog) w1 31 0 9 g (n + ps.length) (L - (n + ps.length)) (cap - (n + ps.length)) (.string ⟨#[]⟩) l1.toArray 9 Tryz.underlying31 (Tryz.zeroValue9 w1) rfl rfl HG1.out hkp hfit
  obtain ⟨w2, hw2⟩ : ∃ w2, w2 = w1.setRow g l2.toArray := ⟨_, rfl⟩
  rw [← hw2] at hr2
  have HG2 : Hid (w2.heap[g]? = some (.cells l2.toArray 9 (0, 0))) := by show _ = _; rw [hw2]; exact setRow_heap w1 g _ _ _ _ HG1.out
  have HF2 : Hid (FrameF (· = g) w w2) := by show FrameF _ _ _; rw [hw2]; exact HF1.out.then frame_row
  have HA2 : Hid (∀ j, j < n + ps.length → l2[j]? = l1[j]?) := fun j hj => by have := ha2 j hj; simpa using this
  have HL2 : Hid (l2.length = cap) := by show _ = _; rw [hl2]; simpa using HL1.out
  clear hl2 ha2 hw2 hkp hfit
  go_wp2
  go_ret
  refine ⟨_, rfl, ?_, HF2.out, fun k hk => Or.inl (by simp [Value.ownBlock] at hk; exact hk.symm)⟩
  have hlen : (xs.take n ++ ps).length = n + ps.length := by
    have := HXL.out
    have := HLN.out
    rw [List.length_append, List.length_take]
    omega
  rw [hlen]
  refine owns_row_turn (by have := HLN.out; omega) (by unfold maxLen; omega) (by rw [strVals_length, hlen]) HG2.out (by simpa using HL2.out) (fun j hj => ?_)
  have e1 : (strVals (xs.take n ++ ps))[j]? = (strVals (xs.take n) ++ strVals ps)[j]? := by rw [show strVals (xs.take n ++ ps) = strVals (xs.take n) ++ strVals ps by simp [strVals]]
  have hlt' : (strVals (xs.take n)).length = n := by
    have := HXL.out
    have := HLN.out
    rw [strVals_length, List.length_take]
    omega
  rw [e1, List.getElem?_toArray, HA2.out j hj]
  by_cases hjn : j < n
  · rw [HA1.out j hjn, List.getElem?_append_left (by omega), HCU.out j hjn]
  · rw [List.getElem?_append_right (by omega), hlt', ← HB1.out (j - n) (by omega), show n + (j - n) = j by omega]

end Go.Proofs.YtocbogeoffeolaaGreatDoor

