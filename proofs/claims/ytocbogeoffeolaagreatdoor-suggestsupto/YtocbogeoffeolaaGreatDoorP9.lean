/-
  WALKS: the program's own: two candidates held one against the other.
-/
import Derived.Test.YtocbogeoffeolaaGreatDoorP1
import Derived.Test.YtocbogeoffeolaaGreatDoorSh
import Derived.Test.YtocbogeoffeolaaGreatDoorMaths
namespace Go.Proofs.YtocbogeoffeolaaGreatDoor
open Go.RowKit Go.Sort

set_option maxHeartbeats 400000 in
set_option maxRecDepth 100000 in
theorem cmpU64_any (x y : Nat) (w : World) : Calls Tryz.prog 196 #[.int .u64 (x : Int), .int .u64 (y : Int)] w fun e w' => e = .returned (.int .i64 (cmpN x y)) ∧ w = w' := by
  unfold cmpN
  by_cases h1 : x < y
  · rw [if_pos h1]
    have h1' : (x : Int) < (y : Int) := by omega
    clear h1
    go_enter Tryz.func196, Tryz.ntmps196
    go_wp2
    go_ret
    exact ⟨rfl, rfl⟩
  · rw [if_neg h1]
    by_cases h2 : y < x
    · rw [if_pos h2]
      have h2' : (y : Int) < (x : Int) := by omega
      have h1' : ¬ (x : Int) < (y : Int) := by omega
      clear h1 h2
      go_enter Tryz.func196, Tryz.ntmps196
      go_wp2
      go_ret
      exact ⟨rfl, rfl⟩
    · rw [if_neg h2]
      obtain rfl : x = y := by omega
      clear h1 h2
      go_enter Tryz.func196, Tryz.ntmps196
      go_wp2
      go_ret
      exact ⟨rfl, rfl⟩

set_option maxHeartbeats 400000 in
set_option maxRecDepth 100000 in
theorem or2_any (x y : Int) (g : Nat) (w : World) (h0 : w.cell? ⟨g, 0, none⟩ = some (.int .i64 x)) (h1 : w.cell? ⟨g, 1, none⟩ = some (.int .i64 y)) : Calls Tryz.prog 126 #[.slice (some ⟨g, 0, none⟩) 2 2] w fun e w' => e = .returned (.int .i64 (if x ≠ 0 then x else y)) ∧ w = w' := by
  by_cases hx : x = 0
  · subst hx
    rw [if_neg (by simp)]
    by_cases hy : y = 0
    · subst hy
      go_enter Tryz.func126, Tryz.ntmps126
      go_wp2
      refine wp_loop_rounds 3 ?_
      rw [rounds_succ]
      go_wp2
      rw [rounds_succ]
      go_wp2
      rw [rounds_succ]
      go_wp2
      go_ret
      exact ⟨rfl, rfl⟩
    · have hy' : (y == 0) = false := by simpa using hy
      go_enter Tryz.func126, Tryz.ntmps126
      go_wp2
      refine wp_loop_rounds 2 ?_
      rw [rounds_succ]
      go_wp2
      rw [rounds_succ]
      go_wp2
      go_ret
      exact ⟨rfl, rfl⟩
  · rw [if_pos hx]
    have hx' : (x == 0) = false := by simpa using hx
    go_enter Tryz.func126, Tryz.ntmps126
    go_wp2
    refine wp_loop_rounds 1 ?_
    rw [rounds_succ]
    go_wp2
    go_ret
    exact ⟨rfl, rfl⟩

theorem cell2 {w : World} {x y : Value} {t : TypeId} {g : Nat} (hg : g = w.heap.size) : (w.alloc (.cells #[x, y] t)).cell? ⟨g, 0, none⟩ = some x ∧ (w.alloc (.cells #[x, y] t)).cell? ⟨g, 1, none⟩ = some y := by
  subst hg
  constructor
  · rw [World.cell?_alloc_at _ _ _ _ rfl]; rfl
  · rw [World.cell?_alloc_at _ _ _ _ rfl]; rfl

set_option maxHeartbeats 1000000 in
set_option maxRecDepth 100000 in
theorem scmp_any (p q r t : Nat) (w : World) (hp : p ≤ 419430400) (hq : q ≤ 16777217) (hr : r ≤ 419430400) (ht : t ≤ 16777217) :
    Calls Tryz.prog 138 #[.agg #[.int .u64 (p : Int), .int .u64 (q : Int)], .agg #[.int .u64 (r : Int), .int .u64 (t : Int)]] w fun e w' => e = .returned (.int .i64 (cmpN (p * t) (r * q))) ∧ ∃ k os, w' = grow (w.drewN k) os := by
  have b1 : p * t ≤ 419430400 * 16777217 := Nat.mul_le_mul hp ht
  have b2 : r * q ≤ 419430400 * 16777217 := Nat.mul_le_mul hr hq
  have m1 : ∀ W : World, Calls Tryz.prog 195 #[.int .u64 (p : Int), .int .u64 (t : Int)] W fun e w' => e = .returned (.tuple #[.int .u64 0, .int .u64 ((p * t : Nat) : Int)]) ∧ W = w' := fun W => by
    refine (Any.bits_Mul64 Tryz.lays264 p t (by omega) (by omega) W).mono ?_
    rintro e w' ⟨rfl, rfl⟩
    rw [Nat.div_eq_of_lt (by omega), Nat.mod_eq_of_lt (by omega)]
    exact ⟨rfl, rfl⟩
  have m2 : ∀ W : World, Calls Tryz.prog 195 #[.int .u64 (r : Int), .int .u64 (q : Int)] W fun e w' => e = .returned (.tuple #[.int .u64 0, .int .u64 ((r * q : Nat) : Int)]) ∧ W = w' := fun W => by
    refine (Any.bits_Mul64 Tryz.lays264 r q (by omega) (by omega) W).mono ?_
    rintro e w' ⟨rfl, rfl⟩
    rw [Nat.div_eq_of_lt (by omega), Nat.mod_eq_of_lt (by omega)]
    exact ⟨rfl, rfl⟩
  generalize p * t = X at *
  generalize r * q = Y at *
  have c1 := fun W => cmpU64_any 0 0 W
  have c2 := fun W => cmpU64_any X Y W
  have e0 : cmpN 0 0 = 0 := rfl
  rw [e0] at c1
  go_enter Tryz.func138, Tryz.ntmps138
  go_wp2_with fail
  refine (m1 _).mono ?_
  rintro e w' ⟨rfl, rfl⟩
  go_wp2_with fail
  refine (m2 _).mono ?_
  rintro e w' ⟨rfl, rfl⟩
  go_wp2_with fail
  refine (c1 _).mono ?_
  rintro e w' ⟨rfl, rfl⟩
  go_wp2_with fail
  refine (c2 _).mono ?_
  rintro e w' ⟨rfl, rfl⟩
  obtain ⟨z, hz⟩ : ∃ z, z = cmpN X Y := ⟨_, rfl⟩
  rw [← hz]
  have HZ : Hid (z = cmpN X Y) := hz
  clear hz c1 c2 m1 m2
  go_wp2_with fail
  refine (or2_any 0 z _ _ (cell2 (by simp)).1 (cell2 (by simp)).2).mono ?_
  rintro e w' ⟨rfl, rfl⟩
  go_wp2
  go_ret
  exact ⟨ret_int (by rw [← HZ.out]), 0, _, by rw [alloc_eq_grow, alloc_eq_grow, alloc_eq_grow, grow_grow, grow_grow]; rfl⟩

theorem cell_grow (w : World) (os : Array Obj) (a : Addr) (h : a.block < w.heap.size) : (grow w os).cell? a = w.cell? a := by
  have : (grow w os).heap[a.block]? = w.heap[a.block]? := by
    unfold grow
    simp [Array.getElem?_append, h]
  simp [World.cell?, this]

/-- A candidate's cells. -/
def candL (sc : Wd → Fr) (x : Wd) : List Value := [.string ⟨x.toArray⟩, .int .u64 ((sc x).1 : Int), .int .u64 ((sc x).2 : Int)]

theorem drew_drewN (w : World) (k : Nat) : w.drew.drewN k = w.drewN (1 + k) := by
  unfold World.drewN World.drew
  rw [Nat.add_assoc]
theorem drew_grow' (w : World) (os : Array Obj) (k : Nat) : (grow w os).drewN k = grow (w.drewN k) os := rfl

end Go.Proofs.YtocbogeoffeolaaGreatDoor
